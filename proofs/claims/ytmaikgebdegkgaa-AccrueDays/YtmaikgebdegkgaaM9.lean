/- accrue: the document's DocDaily of right arguments; both side by side. -/
import Derived.Test.YtmaikgebdegkgaaKn
import Derived.Test.YtmaikgebdegkgaaM8
namespace Go.Proofs.Ytmaikgebdegkgaa
open Go.RowKit
set_option linter.unusedVariables false
set_option maxRecDepth 100000

theorem DocDaily_ok (b how f t nn d : Int) (mode : Nat) (tv : Value) (ts : List (Int × Int)) (w : World) (h : Tr w tv ts) (hC : ∀ w, Calls Try.prog 23 #[.int .i64 how, .int .i64 f, .int .i64 t] w fun e w' => e = .returned (.int .i64 0) ∧ w' = w) (hb : 0 ≤ b ∧ b ≤ 10000000000000) (hm : mode ≤ 6) (ht : terr ts = 0)
    (hP : ∀ w, Calls Try.prog 43 #[.int .i64 how, .int .i64 f, .int .i64 t] w fun e w' => e = .returned (.tuple #[.int .i64 nn, .int .i64 d]) ∧ w' = w) (hn : 0 ≤ nn ∧ nn ≤ 1500000000) (hd : 0 < d ∧ d ≤ 133590) :
    Calls Try.prog 11 #[.int .i64 b, tv, .int .i64 how, .int .i64 mode, .int .i64 f, .int .i64 t] w
      fun e w' => (dly b ts nn d mode ≤ 4000000000000000000 ∧ e = .returned (.tuple #[.int .i64 (dly b ts nn d mode), .int .i64 0]) ∨ ¬ dly b ts nn d mode ≤ 4000000000000000000 ∧ e = .returned (.tuple #[.int .i64 0, .int .i64 4])) ∧ Below w.heap.size w w' := by
  have H := (show Hid _ from h)
  have HC := (show Hid _ from hC)
  have HT := (show Hid _ from ht)
  have HBB := (show Hid _ from hb)
  have HP := (show Hid _ from hP)
  have HN := (show Hid _ from And.intro hn hd)
  have HM := (show Hid _ from hm)
  have db : decide (0 ≤ b ∧ b ≤ 10000000000000) = true := decide_eq_true hb
  have l1 : decide ((mode : Int) < 0) = false := decide_eq_false (by omega)
  have l2 : decide (6 < (mode : Int)) = false := decide_eq_false (by omega)
  clear h hC hb hm ht hP hn hd
  obtain ⟨x, hx⟩ : ∃ x, x = dly b ts nn d mode := ⟨_, rfl⟩
  have x0 : 0 ≤ x := by rw [hx]; unfold dly; omega
  have HX := (show Hid _ from hx)
  clear hx
  rw [← HX.out]
  go_enter Try.func11, Try.ntmps11
  go_wp2_with fail
  refine (HC.out _).mono ?_
  rintro e w1 ⟨rfl, hw⟩
  obtain rfl := hw.symm
  go_wp2_with fail
  refine (amount_ok b _).mono ?_
  rintro e w1 ⟨rfl, hw⟩
  obtain rfl := hw.symm
  rw [db]
  go_wp2_with fail
  refine (rtiers_ok tv ts _ H.out).mono ?_
  rintro e w1 ⟨rfl, b1⟩
  rw [HT.out]
  have B1 := (show Hid _ from b1)
  clear b1
  go_wp2_with fail
  refine (rdaily_ok b tv ts how f t nn d mode _ (H.out.step B1.out) HBB.out HT.out HM.out HP.out HN.out.1 HN.out.2).mono ?_
  rintro e w2 ⟨⟨r, rfl, i2⟩, b2⟩
  rw [← HX.out] at i2
  have I2 := (show Hid _ from i2)
  have B2 := (show Hid _ from B1.out.trans (b2.mono B1.out.size))
  clear i2 b2 B1
  go_wp2_with fail
  by_cases h9 : x ≤ 9223372036854775807
  · refine (small_yes r x _ I2.out (by omega) h9).mono ?_
    rintro e w3 ⟨rfl, b3⟩
    have B3 := (show Hid _ from B2.out.trans (b3.mono B2.out.size))
    clear b3 B2
    by_cases h4 : x ≤ 4000000000000000000
    · have d3 : decide (4000000000000000000 < x) = false := decide_eq_false (by omega)
      have H4 := (show Hid _ from h4)
      clear h4
      go_wp2_with fail
      refine bodyPost_ret (v := .tuple #[.int .i64 x, .int .i64 0]) (by simp [results, Try.results11, go_sem]) rfl ?_
      exact ⟨Or.inl ⟨H4.out, rfl⟩, B3.out⟩
    · have d3 : decide (4000000000000000000 < x) = true := decide_eq_true (by omega)
      have H4 : Hid (4000000000000000000 < x) := (by omega : 4000000000000000000 < x)
      clear h4
      go_wp2_with fail
      refine bodyPost_ret (v := .tuple #[.int .i64 0, .int .i64 4]) (by simp [results, Try.results11, go_sem]) rfl ?_
      exact ⟨Or.inr ⟨by have := H4.out; omega, rfl⟩, B3.out⟩
  · have H4 : Hid (4000000000000000000 < x) := (by omega : 4000000000000000000 < x)
    refine (small_no r x _ I2.out (by omega)).mono ?_
    rintro e w3 ⟨rfl, b3⟩
    have B3 := (show Hid _ from B2.out.trans (b3.mono B2.out.size))
    clear b3 B2
    go_wp2_with fail
    refine bodyPost_ret (v := .tuple #[.int .i64 0, .int .i64 4]) (by simp [results, Try.results11, go_sem]) rfl ?_
    exact ⟨Or.inr ⟨by have := H4.out; omega, rfl⟩, B3.out⟩
theorem terr_vals (ts : List (Int × Int)) : terr ts = 0 ∨ terr ts = 2 ∨ terr ts = 3 := by
  unfold terr
  split
  · omega
  · split
    · omega
    · split <;> omega
/-- both answer the same parts -/
theorem parts_both (b : Int) (ts : List (Int × Int)) : ∃ (zs : List Int) (r : Int), (∀ w tv, Tr w tv ts → Calls Try.prog 12 #[.int .i64 b, tv] w fun e w' => (∃ v, e = .returned (.tuple #[v, .int .i64 r]) ∧ Is w' v zs) ∧ Below w.heap.size w w') ∧
    (∀ w tv, Tr w tv ts → Calls Try.prog 13 #[.int .i64 b, tv] w fun e w' => (∃ v, e = .returned (.tuple #[v, .int .i64 r]) ∧ Is w' v zs) ∧ Below w.heap.size w w') := by
  by_cases hb : 0 ≤ b ∧ b ≤ 10000000000000
  · by_cases ht : terr ts = 0
    · refine ⟨prts b ts ts.length, 0, fun w tv h => (Parts_ok b tv ts w h hb ht).mono ?_, fun w tv h => (DocParts_ok b tv ts w h hb ht).mono ?_⟩
      · rintro e w' ⟨⟨v, rfl, ho⟩, hb⟩; exact ⟨⟨v, rfl, ho.is⟩, hb⟩
      · rintro e w' ⟨⟨v, rfl, ho⟩, hb⟩; exact ⟨⟨v, rfl, ho.is⟩, hb⟩
    · refine ⟨[], terr ts, fun w tv h => (Parts_err b tv ts w h hb ht).mono ?_, fun w tv h => (DocParts_err b tv ts w h hb ht).mono ?_⟩
      · rintro e w' ⟨rfl, hb⟩; exact ⟨⟨_, rfl, is_nil _⟩, hb⟩
      · rintro e w' ⟨rfl, hb⟩; exact ⟨⟨_, rfl, is_nil _⟩, hb⟩
  · refine ⟨[], 1, fun w tv h => (Parts_arg b tv w hb).mono ?_, fun w tv h => (DocParts_arg b tv w hb).mono ?_⟩
    · rintro e w' ⟨rfl, hb⟩; exact ⟨⟨_, rfl, is_nil _⟩, hb⟩
    · rintro e w' ⟨rfl, hb⟩; exact ⟨⟨_, rfl, is_nil _⟩, hb⟩
/-- what Parts answers, for Daily -/
theorem parts_for (b : Int) (ts : List (Int × Int)) (c : Int) (hc : ¬ (0 ≤ b ∧ b ≤ 10000000000000) ∧ c = 1 ∨ (0 ≤ b ∧ b ≤ 10000000000000) ∧ c = terr ts) (w : World) (tv : Value) (h : Tr w tv ts) :
    ∀ w', Below w.heap.size w w' → Calls Try.prog 12 #[.int .i64 b, tv] w' fun e w2 => (∃ v, e = .returned (.tuple #[v, .int .i64 c])) ∧ Below w'.heap.size w' w2 := by
  intro w' hw
  rcases hc with ⟨hb, rfl⟩ | ⟨hb, rfl⟩
  · refine (Parts_arg b tv w' hb).mono ?_
    rintro e w2 ⟨rfl, h2⟩; exact ⟨⟨_, rfl⟩, h2⟩
  · by_cases ht : terr ts = 0
    · refine (Parts_ok b tv ts w' (h.step hw) hb ht).mono ?_
      rintro e w2 ⟨⟨v, rfl, _⟩, h2⟩; exact ⟨⟨_, by rw [ht]⟩, h2⟩
    · refine (Parts_err b tv ts w' (h.step hw) hb ht).mono ?_
      rintro e w2 ⟨rfl, h2⟩; exact ⟨⟨_, rfl⟩, h2⟩
def DBoth (b : Int) (ts : List (Int × Int)) (how mode f t x e : Int) : Prop := (∀ w tv, Tr w tv ts → Calls Try.prog 10 #[.int .i64 b, tv, .int .i64 how, .int .i64 mode, .int .i64 f, .int .i64 t] w fun r w' => r = .returned (.tuple #[.int .i64 x, .int .i64 e]) ∧ Below w.heap.size w w') ∧
    (∀ w tv, Tr w tv ts → Calls Try.prog 11 #[.int .i64 b, tv, .int .i64 how, .int .i64 mode, .int .i64 f, .int .i64 t] w fun r w' => r = .returned (.tuple #[.int .i64 x, .int .i64 e]) ∧ Below w.heap.size w w')
/-- where the days are told wrong, or in order: what is left -/
theorem days_side (b : Int) (ts : List (Int × Int)) (how mode f t n d r : Int) (hr : r = 0 ∨ r = 9)
    (hP : ∀ w, Calls Try.prog 32 #[.int .i64 how, .int .i64 f, .int .i64 t] w fun e w' => e = .returned (.tuple #[.int .i64 n, .int .i64 d, .int .i64 r]) ∧ w' = w)
    (hC : ∀ w, Calls Try.prog 23 #[.int .i64 how, .int .i64 f, .int .i64 t] w fun e w' => e = .returned (.int .i64 r) ∧ w' = w)
    (hbad : ¬ (r = 0 ∧ (0 ≤ b ∧ b ≤ 10000000000000) ∧ (0 ≤ mode ∧ mode ≤ 6) ∧ terr ts = 0)) : ∃ x e, DBoth b ts how mode f t x e := by
  have r1 : r ≠ 1 := by omega
  by_cases hb : 0 ≤ b ∧ b ≤ 10000000000000
  · by_cases hm : 0 ≤ mode ∧ mode ≤ 6
    · by_cases ht : terr ts = 0
      · have r9 : r = 9 := by
          rcases hr with h | h
          · exact absurd ⟨h, hb, hm, ht⟩ hbad
          · exact h
        subst r9
        refine ⟨0, 9, fun w tv h => Daily_date b how mode f t n d 9 tv w hP r1 (by omega) hm ?_, fun w tv h => DocDaily_90 b how mode f t tv ts w h hC hb hm ht⟩
        have := parts_for b ts (terr ts) (Or.inr ⟨hb, rfl⟩) w tv h
        rw [ht] at this
        exact this
      · refine ⟨0, terr ts, fun w tv h => Daily_parts b how mode f t n d r (terr ts) tv w hP r1 hm (parts_for b ts (terr ts) (Or.inr ⟨hb, rfl⟩) w tv h) ht, fun w tv h => ?_⟩
        rcases terr_vals ts with h0 | h0 | h0
        · exact absurd h0 ht
        · rw [h0]
          rcases hr with rfl | rfl
          · exact DocDaily_02 b how mode f t tv ts w h hC hb hm h0
          · exact DocDaily_92 b how mode f t tv ts w h hC hb hm h0
        · rw [h0]
          rcases hr with rfl | rfl
          · exact DocDaily_03 b how mode f t tv ts w h hC hb hm h0
          · exact DocDaily_93 b how mode f t tv ts w h hC hb hm h0
    · refine ⟨0, 1, fun w tv h => Daily_mode b how mode f t n d r tv w hP r1 hm, fun w tv h => ?_⟩
      by_cases h1 : mode < 0
      · rcases terr_vals ts with h0 | h0 | h0
        · exact DocDaily_lo0 b how mode f t r tv ts w h hC hb h1 h0
        · exact DocDaily_lo2 b how mode f t r tv ts w h hC hb h1 h0
        · exact DocDaily_lo3 b how mode f t r tv ts w h hC hb h1 h0
      · have h2 : 6 < mode := by omega
        rcases terr_vals ts with h0 | h0 | h0
        · exact DocDaily_hi0 b how mode f t r tv ts w h hC hb h2 h0
        · exact DocDaily_hi2 b how mode f t r tv ts w h hC hb h2 h0
        · exact DocDaily_hi3 b how mode f t r tv ts w h hC hb h2 h0
  · refine ⟨0, 1, fun w tv h => ?_, fun w tv h => ?_⟩
    · by_cases hm : 0 ≤ mode ∧ mode ≤ 6
      · exact Daily_parts b how mode f t n d r 1 tv w hP r1 hm (parts_for b ts 1 (Or.inl ⟨hb, rfl⟩) w tv h) (by omega)
      · exact Daily_mode b how mode f t n d r tv w hP r1 hm
    · rcases terr_vals ts with h0 | h0 | h0
      · exact DocDaily_b0 b how mode f t r tv ts w h hC hb h0
      · exact DocDaily_b2 b how mode f t r tv ts w h hC hb h0
      · exact DocDaily_b3 b how mode f t r tv ts w h hC hb h0
theorem days_right (b : Int) (ts : List (Int × Int)) (how f t n d : Int) (mode : Nat) (hb : 0 ≤ b ∧ b ≤ 10000000000000) (hm : mode ≤ 6) (ht : terr ts = 0)
    (hP : ∀ w, Calls Try.prog 32 #[.int .i64 how, .int .i64 f, .int .i64 t] w fun e w' => e = .returned (.tuple #[.int .i64 n, .int .i64 d, .int .i64 0]) ∧ w' = w)
    (hR : ∀ w, Calls Try.prog 43 #[.int .i64 how, .int .i64 f, .int .i64 t] w fun e w' => e = .returned (.tuple #[.int .i64 n, .int .i64 d]) ∧ w' = w)
    (hC : ∀ w, Calls Try.prog 23 #[.int .i64 how, .int .i64 f, .int .i64 t] w fun e w' => e = .returned (.int .i64 0) ∧ w' = w)
    (hn : 0 ≤ n ∧ n ≤ 1500000000) (hd : 0 < d ∧ d ≤ 133590) : ∃ x e, DBoth b ts how mode f t x e := by
  by_cases h4 : dly b ts n d mode ≤ 4000000000000000000
  · refine ⟨dly b ts n d mode, 0, fun w tv h => (Daily_ok b tv ts how f t n d mode w h hb ht (by omega) hP hn hd).mono ?_, fun w tv h => (DocDaily_ok b how f t n d mode tv ts w h hC hb hm ht hR hn hd).mono ?_⟩
    all_goals
      rintro e w' ⟨⟨_, h⟩ | ⟨h, _⟩, hb⟩
      · exact ⟨h, hb⟩
      · exact absurd h4 h
  · refine ⟨0, 4, fun w tv h => (Daily_ok b tv ts how f t n d mode w h hb ht (by omega) hP hn hd).mono ?_, fun w tv h => (DocDaily_ok b how f t n d mode tv ts w h hC hb hm ht hR hn hd).mono ?_⟩
    all_goals
      rintro e w' ⟨⟨h, _⟩ | ⟨_, h⟩, hb⟩
      · exact absurd h h4
      · exact ⟨h, hb⟩
/-- both answer the same interest -/
theorem days_both (b : Int) (ts : List (Int × Int)) (how mode f t : Int) : ∃ x e, DBoth b ts how mode f t x e := by
  by_cases h : how < 0 ∨ 3 < how ∨ ¬ (1 ≤ f ∧ f ≤ 3652059) ∨ ¬ (1 ≤ t ∧ t ≤ 3652059)
  · have C := fun w => cb.check_arg how f t w h
    have R := fun w => cb.rCheck_arg how f t w h
    have P := fun w => cb.Part_err how f t 1 w (by omega) C
    refine ⟨0, 1, fun w tv h => Daily_arg b how mode f t 0 0 1 tv w P rfl, fun w tv h => ?_⟩
    by_cases hb : 0 ≤ b ∧ b ≤ 10000000000000
    · by_cases h1 : mode < 0
      · rcases terr_vals ts with h0 | h0 | h0
        · exact DocDaily_lo0 b how mode f t 1 tv ts w h R hb h1 h0
        · exact DocDaily_lo2 b how mode f t 1 tv ts w h R hb h1 h0
        · exact DocDaily_lo3 b how mode f t 1 tv ts w h R hb h1 h0
      · by_cases h2 : 6 < mode
        · rcases terr_vals ts with h0 | h0 | h0
          · exact DocDaily_hi0 b how mode f t 1 tv ts w h R hb h2 h0
          · exact DocDaily_hi2 b how mode f t 1 tv ts w h R hb h2 h0
          · exact DocDaily_hi3 b how mode f t 1 tv ts w h R hb h2 h0
        · rcases terr_vals ts with h0 | h0 | h0
          · exact DocDaily_10 b how mode f t tv ts w h R hb (by omega) h0
          · exact DocDaily_12 b how mode f t tv ts w h R hb (by omega) h0
          · exact DocDaily_13 b how mode f t tv ts w h R hb (by omega) h0
    · rcases terr_vals ts with h0 | h0 | h0
      · exact DocDaily_b0 b how mode f t 1 tv ts w h R hb h0
      · exact DocDaily_b2 b how mode f t 1 tv ts w h R hb h0
      · exact DocDaily_b3 b how mode f t 1 tv ts w h R hb h0
  by_cases h' : t < f
  · have C := fun w => cb.check_date how f t w (by omega) (by omega) (by omega) h' (by omega)
    have R := fun w => cb.rCheck_date how f t w (by omega) (by omega) (by omega) h' (by omega)
    exact days_side b ts how mode f t 0 0 9 (Or.inr rfl) (fun w => cb.Part_err how f t 9 w (by omega) C) R (fun hh => by have := hh.1; omega)
  have R := fun w => cb.rCheck_ok how f t w (by omega) (by omega) (by omega) (by omega) (by omega)
  obtain ⟨n, d, hn, hd, P, Q⟩ : ∃ n d : Int, (0 ≤ n ∧ n ≤ 1500000000) ∧ (0 < d ∧ d ≤ 133590) ∧ (∀ w, Calls Try.prog 32 #[.int .i64 how, .int .i64 f, .int .i64 t] w fun e w' => e = .returned (.tuple #[.int .i64 n, .int .i64 d, .int .i64 0]) ∧ w' = w) ∧ (∀ w, Calls Try.prog 43 #[.int .i64 how, .int .i64 f, .int .i64 t] w fun e w' => e = .returned (.tuple #[.int .i64 n, .int .i64 d]) ∧ w' = w) := by
    obtain ⟨y, m, d, D⟩ := cb.date_ex f (by omega) (by omega)
    obtain ⟨y', m', d', D'⟩ := cb.date_ex t (by omega) (by omega)
    have hc : how = 0 ∨ how = 1 ∨ how = 2 ∨ how = 3 := by omega
    rcases hc with rfl | rfl | rfl | rfl
    · exact ⟨_, _, by omega, by omega, fun w => cb.Part_0 f t w (by omega) (by omega) (by omega), fun w => cb.rPart_0 f t w (by omega) (by omega) (by omega)⟩
    · exact ⟨_, _, by omega, by omega, fun w => cb.Part_1 f t w (by omega) (by omega) (by omega), fun w => cb.rPart_1 f t w (by omega) (by omega) (by omega)⟩
    · have m1 := cb.thi_mono D D' (by omega)
      have m2 := cb.thi_bounds D
      have m3 := cb.thi_bounds D'
      exact ⟨_, _, by omega, by omega, fun w => cb.Part_2 f t _ _ _ _ _ _ w D D' (by omega), fun w => cb.rPart_2 f t _ _ _ _ _ _ w D D'⟩
    · have m1 := cb.act_mono D.inY D'.inY (by omega)
      have m2 := cb.act_bounds D
      have m3 := cb.act_bounds D'
      exact ⟨_, _, by omega, by omega, fun w => cb.Part_3 f t _ _ _ _ _ _ w D D' (by omega), fun w => cb.rPart_3 f t _ _ _ _ _ _ w D D' (by omega)⟩
  by_cases hg : (0 ≤ b ∧ b ≤ 10000000000000) ∧ (0 ≤ mode ∧ mode ≤ 6) ∧ terr ts = 0
  · obtain ⟨M, rfl⟩ := Int.eq_ofNat_of_zero_le hg.2.1.1
    exact days_right b ts how f t n d M hg.1 (by have := hg.2.1.2; omega) hg.2.2 P Q R hn hd
  · exact days_side b ts how mode f t n d 0 (Or.inl rfl) P R (fun hh => hg hh.2)
end Go.Proofs.Ytmaikgebdegkgaa
/- accrue: the walk of AccrueDays. -/
namespace Go.Proofs.Ytmaikgebdegkgaa
open Go.RowKit
set_option linter.unusedVariables false

theorem OwnT.form' {w : World} {B : Nat} {v : Value} {ts : List (Int × Int)} (h : OwnT w B v ts) : ∃ a c, v = .slice a ts.length c ∧ ts.length ≤ c ∧ c ≤ 9223372036854775807 := by
  obtain ⟨_, a, c, e, h1, h2, _⟩ := h.tr
  exact ⟨a, c, e, h1, h2⟩
theorem tf_last (ts : List (Int × Int)) (p : Int × Int) : tf (ts ++ [p]) ts.length = p.1 := by unfold tf; simp
theorem tf_front (ts : List (Int × Int)) (p : Int × Int) (k : Nat) (h : k < ts.length) : tf (ts ++ [p]) k = tf ts k ∧ tr (ts ++ [p]) k = tr ts k := by unfold tf tr; simp [List.getElem?_append_left h]
theorem eqT (w : World) (a b : Int) : (Op.equalIn 10000 25 (.agg #[.int .i64 a, .int .i64 b]) (.agg #[.int .i64 a, .int .i64 b])).run Try.prog w = .ok true w := by
  go_simp
set_option maxRecDepth 100000 in
set_option maxHeartbeats 2000000 in
theorem days_walk (b : Int) (tv : Value) (ts : List (Int × Int)) (how mode f t : Int) (w : World) (h : Tr w tv ts) (hno : ∀ n c, tv = .slice none n c → c = 0) (hl : ts.length ≤ 8796093022206) :
    Calls Try.prog 3 #[.int .i64 b, tv, .int .i64 how, .int .i64 mode, .int .i64 f, .int .i64 t] w fun e w' => e = .returned (.bool true) ∧ Below w.heap.size w w' := by
  obtain ⟨x, er, hA, hD⟩ := days_both b ts how mode f t
  obtain ⟨zs, r, hQ, hE⟩ := parts_both b ts
  obtain ⟨n, hn⟩ : ∃ n, n = ts.length := ⟨_, rfl⟩
  have H := (show Hid _ from h)
  obtain ⟨ta, tc, rfl, g1, g2⟩ : ∃ a c, tv = .slice a n c ∧ n ≤ c ∧ c ≤ 9223372036854775807 := by obtain ⟨_, a, c, e, h1, h2, _⟩ := h; exact ⟨a, c, by rw [hn]; exact e, by rw [hn]; exact h1, h2⟩
  have HNO := (show Hid _ from hno)
  have HL := (show Hid _ from hl)
  have HA := (show Hid _ from hA)
  have HD := (show Hid _ from hD)
  have HQ := (show Hid _ from hQ)
  have HE := (show Hid _ from hE)
  have HN := (show Hid _ from hn)
  clear h hno hl hA hD hQ hE hn
  go_enter Try.func3, Try.ntmps3
  go_wp2_with (first | (go_at_call 9; refine (awake_ok _).mono ?_; rintro e w1 ⟨rfl, b1⟩; have B1 := (show Hid _ from b1); clear b1; have T1 := (show Hid _ from (H.out.step B1.out).step ((Below.refl w1.heap.size w1).alloc (Nat.le_refl _) (.cells #[] 25)))) | (at_builtin; refine appTr rfl _ _ rfl w1.heap.size [] ts _ _ (by rfl) (by rfl) (ownT_made w1) T1.out HNO.out (by simp) (by have := HL.out; simp; omega) ?_; intro v2 w2 o2 b2 _; rw [List.nil_append] at o2; have O2 := (show Hid _ from o2.step ((Below.refl w2.heap.size w2).alloc (Nat.le_refl _) (.cells (tcs [(77, 0)]).toArray 25))); have B2 := (show Hid _ from (B1.out.alloc B1.out.size (.cells #[] 25)).trans (b2.mono (by have := B1.out.size; omega))); have s2 : w1.heap.size ≤ w2.heap.size := Nat.le_trans (by simp) b2.size; have s1 := B1.out.size; have TX := (show Hid _ from tr_new w2 [(77, 0)] 1 rfl (by omega) (by intro t ht; simp at ht; subst ht; constructor <;> (unfold I64; dsimp only; omega)) 25); clear o2 b2 B1 T1) | (at_builtin; refine appTr rfl _ _ rfl w1.heap.size ts [(77, 0)] _ _ (by rfl) (by rfl) O2.out TX.out (fun n c e => by cases e) (by simp; omega) (by have := HL.out; simp; omega) ?_; intro v3 w3 o3 b3 _; obtain ⟨a3, c3, e3, k31, k32⟩ := o3.form'; rw [List.length_append, List.length_singleton, ← HN.out] at e3 k31; subst e3; have O3 := (show Hid _ from o3); have B3 := (show Hid _ from (B2.out.alloc B2.out.size (.cells (tcs [(77, 0)]).toArray 25)).trans (b3.mono (by have := B2.out.size; have := s1; omega))); clear o3 b3 O2 TX))
  have F3 := (show Hid _ from O3.out.tr)
  have T3 := F3.out.front
  rw [← HN.out] at T3
  have T3 := (show Hid _ from T3)
  have U3 := (show Hid _ from H.out.step B3.out)
  clear B2 O3
  refine (HA.out _ _ T3.out).mono ?_
  rintro e w4 ⟨rfl, b4⟩
  have F4 := (show Hid _ from F3.out.step b4)
  have T4 := (show Hid _ from T3.out.step b4)
  have U4 := (show Hid _ from U3.out.step b4)
  have B4 := (show Hid _ from B3.out.trans (b4.mono B3.out.size))
  clear b4 F3 T3 U3 B3
  go_wp2_with fail
  refine (HD.out _ _ U4.out).mono ?_
  rintro e w5 ⟨rfl, b5⟩
  have F5 := (show Hid _ from F4.out.step b5)
  have T5 := (show Hid _ from T4.out.step b5)
  have U5 := (show Hid _ from U4.out.step b5)
  have B5 := (show Hid _ from B4.out.trans (b5.mono B4.out.size))
  clear b5 F4 T4 U4 B4
  go_wp2_with fail
  refine (HQ.out _ _ T5.out).mono ?_
  rintro e w6 ⟨⟨v6, rfl, i6⟩, b6⟩
  have F6 := (show Hid _ from F5.out.step b6)
  have U6 := (show Hid _ from U5.out.step b6)
  have I6 := (show Hid _ from i6)
  have B6 := (show Hid _ from B5.out.trans (b6.mono B5.out.size))
  clear b6 i6 F5 T5 U5 B5
  go_wp2_with fail
  refine (HE.out _ _ U6.out).mono ?_
  rintro e w7 ⟨⟨v7, rfl, i7⟩, b7⟩
  have F7 := (show Hid _ from F6.out.step b7)
  have U7 := (show Hid _ from U6.out.step b7)
  have I7 := (show Hid _ from I6.out.step b7)
  have J7 := (show Hid _ from i7)
  have B7 := (show Hid _ from B6.out.trans (b7.mono B6.out.size))
  clear b7 i7 F6 U6 I6 B6
  go_wp2_with fail
  refine (sameInts_ok v6 v7 zs _ I7.out J7.out).mono ?_
  rintro e w8 ⟨rfl, b8⟩
  have F8 := (show Hid _ from F7.out.step b8)
  have U8 := (show Hid _ from U7.out.step b8)
  have B8 := (show Hid _ from B7.out.trans (b8.mono B7.out.size))
  clear b8 F7 U7 B7 I7 J7
  obtain ⟨fb, fo, rfl, y1, y2⟩ := F8.out.cells n (by omega)
  have hq : fb < w8.heap.size := by obtain ⟨_, _, e, hq, _⟩ := F8.out.at n (by omega); cases e; exact hq
  have e77 := tf_last ts (77, 0)
  rw [← HN.out] at e77
  rw [e77] at y1
  clear e77 y2
  go_wp2_with fail
  go_loopw [99] (fun i wr => ∃ k : Nat, k ≤ n ∧ i = .int .i64 k ∧ Hid (Tr wr (.slice (some ⟨fb, fo, none⟩) (n + 1) c3) (ts ++ [(77, 0)])) ∧ Hid (Tr wr (.slice ta n tc) ts) ∧ Hid (Below w.heap.size w wr)) (fun i _ => n - (intOf i).toNat)
  case atStart => exact ⟨0, by omega, rfl, F8, U8, B8⟩
  case round =>
    obtain ⟨k, hk, rfl, ff, uu, hb⟩ := hrel
    clear y1 hq
    by_cases hkn : k = n
    · subst hkn
      go_wp2_with fail
      go_ret
      exact ⟨rfl, hb.out⟩
    have hk' : k < n := by omega
    have hlt : decide ((k : Int) < n) = true := decide_eq_true (by omega)
    obtain ⟨gb, go, eg, z1, z2⟩ := ff.out.cells k (by omega)
    cases eg
    obtain ⟨qb, qo, rfl, z3, z4⟩ := uu.out.cells k hk'
    have hf := tf_front ts (77, 0) k (by have := HN.out; omega)
    rw [hf.1] at z1
    rw [hf.2] at z2
    have heq := fun w => eqT w (tf ts k) (tr ts k)
    clear hf
    generalize tf ts k = xx at *
    generalize tr ts k = yy at *
    go_wp2_with fail
    go_quiet (fail)
    have hb2 := (show Hid _ from bel_drewN' hb.out nq)
    have ff2 := (show Hid _ from ff.out.step (bel_drewN' (Below.refl _ _) nq))
    have uu2 := (show Hid _ from uu.out.step (bel_drewN' (Below.refl _ _) nq))
    clear z1 z2 z3 z4 hb ff uu
    generalize wr.drewN nq = wq at *
    go_wp2_with fail
    exact ⟨⟨k + 1, by omega, by simp, ff2, uu2, hb2⟩, by simp [intOf]; omega⟩
end Go.Proofs.Ytmaikgebdegkgaa
