/- accrue: rounding is monotone; one tier; spans of days. -/
import Derived.Test.YtmaikgebdegkgaaKe
namespace Go.Proofs.Ytmaikgebdegkgaa
open Go.RowKit
set_option linter.unusedVariables false

theorem rquo_eq (n d mode : Nat) : rquo false n d 0 mode = n / d + (if away false (n / d) (n % d) d mode then 1 else 0) := by
  unfold rquo rnum rden
  simp
theorem away_mono {q r r' d mode : Nat} (h : r ≤ r') (ha : away false q r d mode = true) : away false q r' d mode = true := by
  unfold away at *
  by_cases h0 : r = 0
  · rw [if_pos h0] at ha; cases ha
  rw [if_neg h0] at ha
  rw [if_neg (by omega)]
  split at ha <;> simp_all <;> omega
theorem rquo_mono {n n' d mode : Nat} (hd : 0 < d) (h : n ≤ n') : rquo false n d 0 mode ≤ rquo false n' d 0 mode := by
  rw [rquo_eq, rquo_eq]
  have hq : n / d ≤ n' / d := Nat.div_le_div_right h
  rcases Nat.lt_or_ge (n / d) (n' / d) with hlt | hge
  · split <;> omega
  · have e : n / d = n' / d := by omega
    have e1 := Nat.div_add_mod n d
    have e2 := Nat.div_add_mod n' d
    rw [← e] at e2 ⊢
    have hr : n % d ≤ n' % d := by omega
    by_cases ha : away false (n / d) (n % d) d mode = true
    · rw [if_pos ha, if_pos (away_mono hr ha)]; omega
    · rw [if_neg ha]; omega
theorem rq_mono {N N' D : Int} {mode : Nat} (h0 : 0 ≤ N) (h : N ≤ N') (hD : 0 < D) : rq N D mode ≤ rq N' D mode := rquo_mono (by omega) (by omega)
theorem rq_zero (D : Int) (mode : Nat) : rq 0 D mode = 0 := by
  unfold rq
  rw [rquo_eq]
  simp [away]
theorem rq_down {N D : Int} (hN : 0 ≤ N) (hD : 0 < D) : ((rq N D 0 : Nat) : Int) = N / D := by
  unfold rq
  rw [rquo_eq]
  have : away false (N.natAbs / D.natAbs) (N.natAbs % D.natAbs) D.natAbs 0 = false := by unfold away; split <;> rfl
  rw [this]
  obtain ⟨a, rfl⟩ := Int.eq_ofNat_of_zero_le hN
  obtain ⟨b, rfl⟩ := Int.eq_ofNat_of_zero_le (show 0 ≤ D by omega)
  simp
theorem rq_bound {N D : Int} {mode : Nat} (hN : 0 ≤ N) (hD : 0 < D) : ((rq N D mode : Nat) : Int) ≤ N / D + 1 := by
  unfold rq
  rw [rquo_eq]
  obtain ⟨a, rfl⟩ := Int.eq_ofNat_of_zero_le hN
  obtain ⟨b, rfl⟩ := Int.eq_ofNat_of_zero_le (show 0 ≤ D by omega)
  simp only [Int.natAbs_natCast]
  have : (((a / b : Nat) : Nat) : Int) = (a : Int) / b := by simp
  split <;> omega
/-- every mode is the one that goes down, or the one that goes up -/
theorem rq_modes {N D : Int} : (rq N D 1 = rq N D 0 ∨ rq N D 1 = rq N D 0 + 1) ∧ rq N D 2 = rq N D 0 ∧ rq N D 3 = rq N D 1 ∧ ∀ mode, rq N D mode = rq N D 0 ∨ rq N D mode = rq N D 1 := by
  unfold rq
  simp only [rquo_eq]
  generalize N.natAbs / D.natAbs = q
  generalize N.natAbs % D.natAbs = r
  generalize D.natAbs = d
  by_cases h0 : r = 0
  · have h : ∀ mode, away false q r d mode = false := fun mode => by unfold away; rw [if_pos h0]
    simp [h]
  · have a0 : away false q r d 0 = false := by unfold away; rw [if_neg h0]; rfl
    have a1 : away false q r d 1 = true := by unfold away; rw [if_neg h0]; rfl
    have a2 : away false q r d 2 = false := by unfold away; rw [if_neg h0]; rfl
    have a3 : away false q r d 3 = true := by unfold away; rw [if_neg h0]; rfl
    rw [a0, a1, a2, a3]
    refine ⟨Or.inr rfl, rfl, rfl, fun mode => ?_⟩
    cases away false q r d mode
    · exact Or.inl rfl
    · exact Or.inr rfl
/-- one tier -/
theorem terr_one {r : Int} (h : 0 ≤ r ∧ r ≤ 1000000000) : terr [(0, r)] = 0 := by
  refine terr_ok (by simp) (by simp) (fun i hi => ?_)
  obtain rfl : i = 0 := by simp at hi; omega
  unfold gdb tf tr
  simp
  omega
theorem ysum_one (b r : Int) (h : 0 ≤ b) : ysum b [(0, r)] 1 = b * r := by
  have e : prt b [(0, r)] 0 = b := by
    unfold prt pend tf
    simp
    omega
  unfold ysum
  rw [e]
  unfold ysum tr
  simp
theorem terr_two {r c : Int} (h : 0 ≤ r ∧ r ≤ 1000000000) (hc : 1 ≤ c ∧ c ≤ 10000000000000) : terr [(0, r), (c, r)] = 0 := by
  refine terr_ok (by simp) (by simp) (fun i hi => ?_)
  obtain rfl | rfl : i = 0 ∨ i = 1 := by simp at hi; omega
  · unfold gdb tf tr
    simp
    omega
  · unfold gdb tf tr
    simp
    omega
theorem ysum_two (b r c : Int) (h : 0 ≤ b) (hc : 1 ≤ c) : ysum b [(0, r), (c, r)] 2 = b * r := by
  have e0 : prt b [(0, r), (c, r)] 0 = min b c := by
    unfold prt pend tf
    simp
    omega
  have e1 : prt b [(0, r), (c, r)] 1 = max 0 (b - c) := by
    unfold prt pend tf
    simp
  unfold ysum
  rw [e1]
  unfold ysum
  rw [e0]
  unfold ysum tr
  simp
  rw [← Int.add_mul]
  congr 1
  omega
/-- one tier's interest, where it is in reach -/
theorem Daily1 (b r : Int) (tv : Value) (ts : List (Int × Int)) (how f t n d : Int) (mode : Nat) (w : World) (h : Tr w tv ts) (hb : 0 ≤ b ∧ b ≤ 10000000000000) (ht : terr ts = 0) (hy : ysum b ts ts.length = b * r) (hr : 0 ≤ r ∧ r ≤ 1000000000) (hm : (mode : Int) ≤ 6)
    (hP : ∀ w, Calls Try.prog 32 #[.int .i64 how, .int .i64 f, .int .i64 t] w fun e w' => e = .returned (.tuple #[.int .i64 n, .int .i64 d, .int .i64 0]) ∧ w' = w) (hn : 0 ≤ n ∧ n ≤ 1500000000) (hd : 0 < d ∧ d ≤ 133590)
    (hq : b * r * n ≤ 1400000000000000000000000) (hd2 : 360 ≤ d) :
    Calls Try.prog 10 #[.int .i64 b, tv, .int .i64 how, .int .i64 mode, .int .i64 f, .int .i64 t] w
      fun e w' => e = .returned (.tuple #[.int .i64 (rq (b * r * n) (d * 1000) mode : Nat), .int .i64 0]) ∧ Below w.heap.size w w' := by
  refine (Daily_ok b tv ts how f t n d mode w h hb ht hm hP hn hd).mono ?_
  rintro e w' ⟨hh, bb⟩
  have ed : dly b ts n d mode = ((rq (b * r * n) (d * 1000) mode : Nat) : Int) := by unfold dly; rw [hy]
  rw [ed] at hh
  have p0 : 0 ≤ b * r * n := Int.mul_nonneg (Int.mul_nonneg hb.1 hr.1) hn.1
  have bq := rq_bound (mode := mode) p0 (show 0 < d * 1000 by omega)
  have b2 : b * r * n / (d * 1000) ≤ 3999999999999999999 := Int.ediv_le_of_le_mul (by omega) (by omega)
  rcases hh with ⟨_, he⟩ | ⟨hc, _⟩
  · exact ⟨he, bb⟩
  · exact absurd (by omega) hc
/-- parts over few days, by all ways: the number above the line is a difference that never falls -/
theorem act_le {n y n' y' : Int} (h : cb.InY n y) (h' : cb.InY n' y') (hn : n ≤ n') : cb.act n' y' - cb.act n y ≤ 366 * (n' - n) := by
  obtain ⟨k, rfl⟩ : ∃ k : Nat, n' = n + k := ⟨(n' - n).toNat, by omega⟩
  clear hn
  induction k generalizing y' with
  | zero =>
    rw [show n + ((0 : Nat) : Int) = n by omega] at *
    obtain rfl := h.uniq h'
    omega
  | succ k ih =>
    rw [show n + ((k + 1 : Nat) : Int) = n + k + 1 by omega] at *
    have : ∃ z, cb.InY (n + k) z := by
      by_cases c : cb.first y' < n + k
      · exact ⟨y', c, by have := h'.2; omega⟩
      · refine ⟨y' - 1, ?_, ?_⟩
        · have s := cb.first_step (y' - 1)
          rw [show y' - 1 + 1 = y' by omega] at s
          have := cb.lp_lo (y' - 1)
          have := h'.1
          omega
        · rw [show y' - 1 + 1 = y' by omega]; omega
    obtain ⟨z, hz⟩ := this
    have a := ih hz
    have b := cb.act_step hz h'
    have := cb.lp_lo z
    omega
theorem thi_le {n y m d n' y' m' d' : Int} (h : cb.Date n y m d) (h' : cb.Date n' y' m' d') (hn : n' - n ≤ 700) : cb.thi y' m' d' - cb.thi y m d ≤ 1200 := by
  have a := h.inY
  have a' := h'.inY
  have hy : y' ≤ y + 2 := by
    apply Classical.byContradiction
    intro c
    have e := cb.first_mono (show y + 3 ≤ y' by omega)
    have s1 := cb.first_step (y + 1)
    have s2 := cb.first_step (y + 2)
    rw [show y + 1 + 1 = y + 2 by omega] at s1
    rw [show y + 2 + 1 = y + 3 by omega] at s2
    have := cb.lp_lo (y + 1)
    have := cb.lp_lo (y + 2)
    have := a.2
    have := a'.1
    omega
  have := h.mlo
  have := h'.mhi
  have := h.dlo
  unfold cb.thi
  omega
/-- a way to count, as the difference of numbers of days -/
theorem part_ways (how : Int) (h1 : 0 ≤ how) (h2 : how ≤ 3) : ∃ (N : Int → Int) (d : Int), (360 ≤ d ∧ d ≤ 133590) ∧ (∀ f t, 1 ≤ f → f ≤ t → t ≤ 3652059 → 0 ≤ N t - N f ∧ (t - f ≤ 700 → N t - N f ≤ 256200) ∧ N t - N f ≤ 1500000000) ∧
    ∀ f t, 1 ≤ f → f ≤ t → t ≤ 3652059 → ∀ w, Calls Try.prog 32 #[.int .i64 how, .int .i64 f, .int .i64 t] w fun e w' => e = .returned (.tuple #[.int .i64 (N t - N f), .int .i64 d, .int .i64 0]) ∧ w' = w := by
  have hc : how = 0 ∨ how = 1 ∨ how = 2 ∨ how = 3 := by omega
  have hex : ∀ n : Int, ∃ p : Int × Int × Int, 1 ≤ n → n ≤ 3652059 → cb.Date n p.1 p.2.1 p.2.2 := by
    intro n
    by_cases h : 1 ≤ n ∧ n ≤ 3652059
    · obtain ⟨y, m, d, D⟩ := cb.date_ex n h.1 h.2
      exact ⟨(y, m, d), fun _ _ => D⟩
    · exact ⟨(0, 0, 0), fun a b => absurd ⟨a, b⟩ h⟩
  obtain ⟨g, hg⟩ := Classical.skolem.1 hex
  rcases hc with rfl | rfl | rfl | rfl
  · exact ⟨fun x => x, 360, by omega, fun f t a b c => by simp only []; omega, fun f t a b c w => cb.Part_0 f t w a b c⟩
  · exact ⟨fun x => x, 365, by omega, fun f t a b c => by simp only []; omega, fun f t a b c w => cb.Part_1 f t w a b c⟩
  · refine ⟨fun x => cb.thi (g x).1 (g x).2.1 (g x).2.2, 360, by omega, fun f t a b c => ?_, fun f t a b c w => cb.Part_2 f t _ _ _ _ _ _ w (hg f a (by omega)) (hg t (by omega) c) b⟩
    have D := hg f a (by omega)
    have D' := hg t (by omega) c
    have m1 := cb.thi_mono D D' b
    have m2 := cb.thi_bounds D
    have m3 := cb.thi_bounds D'
    dsimp only
    refine ⟨by omega, fun hs => ?_, by omega⟩
    have := thi_le D D' hs
    omega
  · refine ⟨fun x => cb.act x (g x).1, 133590, by omega, fun f t a b c => ?_, fun f t a b c w => cb.Part_3 f t _ _ _ _ _ _ w (hg f a (by omega)) (hg t (by omega) c) b⟩
    have D := hg f a (by omega)
    have D' := hg t (by omega) c
    have m1 := cb.act_mono D.inY D'.inY b
    have m2 := cb.act_bounds D
    have m3 := cb.act_bounds D'
    dsimp only
    refine ⟨by omega, fun hs => ?_, by omega⟩
    have := act_le D.inY D'.inY b
    omega
end Go.Proofs.Ytmaikgebdegkgaa
