/- Rolls: the contracts of Business, look, sameMonth, lookWithinMonth, Roll. -/
import Derived.Test.YthbnjdkmlendhaaDoorCo
namespace Go.Proofs.YthbnjdkmlendhaaDoor
open Go.RowKit
set_option linter.unusedVariables false

theorem Hol.form {w : World} {v : Value} {zs : List Int} (h : Hol w v zs) : (∃ a c, v = .slice a zs.length c) ∧ zs.length ≤ 400 := by
  rcases h.cases with ⟨a, c, rfl, rfl⟩ | ⟨b, off, len, c, rfl, hl, hm, hc⟩
  · exact ⟨⟨a, c, rfl⟩, by simp⟩
  · exact ⟨⟨_, c, by rw [hl]⟩, by omega⟩
theorem Business_ok (n : Int) (v : Value) (zs : List Int) (w : World) (h1 : 1 ≤ n) (h2 : n ≤ 3652059) (h : Hol w v zs) :
    Calls Tryd.prog 6 #[.int .i64 n, v] w fun e w' => e = .returned (.tuple #[.bool (decide (Bus n zs)), .int .i64 0]) ∧ w' = w := by
  obtain ⟨⟨a, c, rfl⟩, hm⟩ := h.form
  have H : Hid (Hol w (.slice a zs.length c) zs) := h
  clear h
  go_enter Tryd.func6, Tryd.ntmps6
  go_wp2_with fail
  refine (isDay_yes n _ h1 h2).mono ?_
  rintro e w1 ⟨rfl, rfl⟩
  go_wp2_with fail
  refine (business_ok n _ zs _ h1 h2 H.out).mono ?_
  rintro e w1 ⟨rfl, rfl⟩
  go_wp2_with fail
  refine bodyPost_ret (v := .tuple #[.bool (decide (Bus n zs)), .int .i64 0]) (by simp [results, Tryd.results6, go_sem]) rfl ⟨rfl, rfl⟩
theorem isDay_no (n : Int) (w : World) (h : ¬ (1 ≤ n ∧ n ≤ 3652059)) :
    Calls Tryd.prog 11 #[.int .i64 n] w fun e w' => e = .returned (.bool false) ∧ w' = w := by
  by_cases h1 : 1 ≤ n
  · have h2 : ¬ n ≤ 3652059 := by omega
    clear h
    go_enter Tryd.func11, Tryd.ntmps11
    go_wp2
    go_ret
    exact ⟨by simp, rfl⟩
  · clear h
    go_enter Tryd.func11, Tryd.ntmps11
    go_wp2
    go_ret
    exact ⟨rfl, rfl⟩
set_option maxRecDepth 100000 in
set_option maxHeartbeats 1000000 in
theorem look_up (n : Int) (v : Value) (zs : List Int) (w : World) (h1 : 1 ≤ n) (h2 : n ≤ 3652059) (h : Hol w v zs) :
    Calls Tryd.prog 12 #[.int .i64 n, .int .i64 1, v] w fun e w' => (e = .returned (.tuple #[.int .i64 0, .int .i64 4]) ∨ ∃ to, (n ≤ to ∧ to ≤ 3652059 ∧ Bus to zs ∧ (∀ d, n ≤ d → d < to → ¬ Bus d zs)) ∧ e = .returned (.tuple #[.int .i64 to, .int .i64 0])) ∧ w' = w := by
  have H : Hid (Hol w v zs) := h
  clear h
  go_enter Tryd.func12, Tryd.ntmps12
  go_wp2_with fail
  go_loop [10] (fun i => ∃ k : Nat, k ≤ 567 ∧ i = .int .i64 k ∧ Hid (∀ j : Nat, j < k → ¬ Bus (n + (j : Int)) zs)) (fun i => 567 - (intOf i).toNat)
  case atStart => exact ⟨0, by omega, rfl, fun j hj => by omega⟩
  case round =>
    obtain ⟨k, hk, rfl, hno⟩ := hrel
    by_cases hk7 : k = 567
    · subst hk7
      go_wp2_with fail
      refine bodyPost_ret (v := .tuple #[.int .i64 0, .int .i64 4]) (by simp [results, Tryd.results12, go_sem]) rfl ⟨Or.inl rfl, rfl⟩
    have hk6 : (k : Int) ≤ 566 := by omega
    obtain ⟨D, hD⟩ : ∃ D, D = n + (k : Int) := ⟨_, rfl⟩
    by_cases hd : 1 ≤ D ∧ D ≤ 3652059
    · by_cases hb : Bus D zs
      · have hbd : decide (Bus D zs) = true := decide_eq_true hb
        have HB : Hid (Bus D zs) := hb
        subst hD
        clear hb
        go_wp2_with fail
        refine (isDay_yes _ _ (by omega) (by omega)).mono ?_
        rintro e w1 ⟨rfl, rfl⟩
        go_wp2_with fail
        refine (business_ok _ _ zs _ (by omega) (by omega) H.out).mono ?_
        rintro e w1 ⟨rfl, rfl⟩
        go_wp2_with fail
        refine bodyPost_ret (v := .tuple #[.int .i64 (n + (k : Int)), .int .i64 0]) (by simp [results, Tryd.results12, go_sem]) rfl ⟨Or.inr ⟨_, ⟨by omega, by omega, HB.out, fun d hd1 hd2 => by
          have := hno.out (d - n).toNat (by omega)
          rw [show n + ((d - n).toNat : Int) = d by omega] at this
          exact this⟩, rfl⟩, rfl⟩
      · have hbd : decide (Bus D zs) = false := decide_eq_false hb
        have HB : Hid (¬ Bus D zs) := hb
        subst hD
        clear hb
        go_wp2_with fail
        refine (isDay_yes _ _ (by omega) (by omega)).mono ?_
        rintro e w1 ⟨rfl, rfl⟩
        go_wp2_with fail
        refine (business_ok _ _ zs _ (by omega) (by omega) H.out).mono ?_
        rintro e w1 ⟨rfl, rfl⟩
        go_wp2_with fail
        exact ⟨⟨k + 1, by omega, by go_num, fun j hj => by
          by_cases hjk : j = k
          · subst hjk; exact HB.out
          · exact hno.out j (by omega)⟩, by simp [intOf]; omega⟩
    · have HN : Hid (¬ (1 ≤ D ∧ D ≤ 3652059)) := hd
      clear hd
      subst hD
      go_wp2_with fail
      refine (isDay_no _ _ HN.out).mono ?_
      rintro e w1 ⟨rfl, rfl⟩
      go_wp2_with fail
      refine bodyPost_ret (v := .tuple #[.int .i64 0, .int .i64 4]) (by simp [results, Tryd.results12, go_sem]) rfl ⟨Or.inl rfl, rfl⟩

set_option maxRecDepth 100000 in
set_option maxHeartbeats 1000000 in
theorem look_down (n : Int) (v : Value) (zs : List Int) (w : World) (h1 : 1 ≤ n) (h2 : n ≤ 3652059) (h : Hol w v zs) :
    Calls Tryd.prog 12 #[.int .i64 n, .int .i64 (-1), v] w fun e w' => (e = .returned (.tuple #[.int .i64 0, .int .i64 4]) ∨ ∃ to, (1 ≤ to ∧ to ≤ n ∧ Bus to zs ∧ (∀ d, to < d → d ≤ n → ¬ Bus d zs)) ∧ e = .returned (.tuple #[.int .i64 to, .int .i64 0])) ∧ w' = w := by
  have H : Hid (Hol w v zs) := h
  clear h
  go_enter Tryd.func12, Tryd.ntmps12
  go_wp2_with fail
  go_loop [10] (fun i => ∃ k : Nat, k ≤ 567 ∧ i = .int .i64 k ∧ Hid (∀ j : Nat, j < k → ¬ Bus (n - (j : Int)) zs)) (fun i => 567 - (intOf i).toNat)
  case atStart => exact ⟨0, by omega, rfl, fun j hj => by omega⟩
  case round =>
    obtain ⟨k, hk, rfl, hno⟩ := hrel
    by_cases hk7 : k = 567
    · subst hk7
      go_wp2_with fail
      refine bodyPost_ret (v := .tuple #[.int .i64 0, .int .i64 4]) (by simp [results, Tryd.results12, go_sem]) rfl ⟨Or.inl rfl, rfl⟩
    have hk6 : (k : Int) ≤ 566 := by omega
    obtain ⟨D, hD⟩ : ∃ D, D = n - (k : Int) := ⟨_, rfl⟩
    by_cases hd : 1 ≤ D ∧ D ≤ 3652059
    · by_cases hb : Bus D zs
      · have hbd : decide (Bus D zs) = true := decide_eq_true hb
        have HB : Hid (Bus D zs) := hb
        subst hD
        clear hb
        go_wp2_with fail
        refine (isDay_yes _ _ (by omega) (by omega)).mono ?_
        rintro e w1 ⟨rfl, rfl⟩
        go_wp2_with fail
        refine (business_ok _ _ zs _ (by omega) (by omega) H.out).mono ?_
        rintro e w1 ⟨rfl, rfl⟩
        go_wp2_with fail
        refine bodyPost_ret (v := .tuple #[.int .i64 (n - (k : Int)), .int .i64 0]) (by simp [results, Tryd.results12, go_sem]; omega) rfl ⟨Or.inr ⟨_, ⟨by omega, by omega, HB.out, fun d hd1 hd2 => by
          have := hno.out (n - d).toNat (by omega)
          rw [show n - ((n - d).toNat : Int) = d by omega] at this
          exact this⟩, rfl⟩, rfl⟩
      · have hbd : decide (Bus D zs) = false := decide_eq_false hb
        have HB : Hid (¬ Bus D zs) := hb
        subst hD
        clear hb
        go_wp2_with fail
        refine (isDay_yes _ _ (by omega) (by omega)).mono ?_
        rintro e w1 ⟨rfl, rfl⟩
        go_wp2_with fail
        refine (business_ok _ _ zs _ (by omega) (by omega) H.out).mono ?_
        rintro e w1 ⟨rfl, rfl⟩
        go_wp2_with fail
        exact ⟨⟨k + 1, by omega, by go_num, fun j hj => by
          by_cases hjk : j = k
          · subst hjk; exact HB.out
          · exact hno.out j (by omega)⟩, by simp [intOf]; omega⟩
    · have HN : Hid (¬ (1 ≤ D ∧ D ≤ 3652059)) := hd
      clear hd
      subst hD
      go_wp2_with fail
      refine (isDay_no _ _ HN.out).mono ?_
      rintro e w1 ⟨rfl, rfl⟩
      go_wp2_with fail
      refine bodyPost_ret (v := .tuple #[.int .i64 0, .int .i64 4]) (by simp [results, Tryd.results12, go_sem]) rfl ⟨Or.inl rfl, rfl⟩

theorem sameMonth_ok (a b y m d y' m' d' : Int) (w : World) (D : Date a y m d) (D' : Date b y' m' d') :
    Calls Tryd.prog 22 #[.int .i64 a, .int .i64 b] w fun e w' => e = .returned (.bool (decide (y = y' ∧ m = m'))) ∧ w' = w := by
  by_cases hy : y = y'
  · subst hy
    have e : decide (y = y ∧ m = m') = (m == m') := by rw [Bool.eq_iff_iff]; simp
    rw [e]
    go_enter Tryd.func22, Tryd.ntmps22
    go_wp2_with fail
    refine (civil_ok a y m d _ D).mono ?_
    rintro e w1 ⟨rfl, rfl⟩
    go_wp2_with fail
    refine (civil_ok b y m' d' _ D').mono ?_
    rintro e w1 ⟨rfl, rfl⟩
    go_wp2_with fail
    go_ret
    exact ⟨rfl, rfl⟩
  · have e : decide (y = y' ∧ m = m') = false := by simp [hy]
    have hy' : (y == y') = false := by simp [hy]
    rw [e]
    go_enter Tryd.func22, Tryd.ntmps22
    go_wp2_with fail
    refine (civil_ok a y m d _ D).mono ?_
    rintro e w1 ⟨rfl, rfl⟩
    go_wp2_with fail
    refine (civil_ok b y' m' d' _ D').mono ?_
    rintro e w1 ⟨rfl, rfl⟩
    go_wp2_with fail
    go_ret
    exact ⟨rfl, rfl⟩
/-- what a roll comes to -/
def Rolled (k n to : Int) (zs : List Int) : Prop :=
  1 ≤ to ∧ to ≤ 3652059 ∧ Bus to zs ∧ ((k ≠ 1 ∧ n ≤ to ∧ (∀ d, n ≤ d → d < to → ¬ Bus d zs) ∧ (k = 2 → ∀ y m d y' m' d', Date n y m d → Date to y' m' d' → m = m')) ∨ (k ≠ 0 ∧ to ≤ n ∧ (∀ d, to < d → d ≤ n → ¬ Bus d zs)))
set_option maxHeartbeats 400000 in
theorem within_ok (n : Int) (v : Value) (zs : List Int) (w : World) (h1 : 1 ≤ n) (h2 : n ≤ 3652059) (h : Hol w v zs) :
    Calls Tryd.prog 13 #[.int .i64 n, v] w fun e w' => (e = .returned (.tuple #[.int .i64 0, .int .i64 4]) ∨ ∃ to, Rolled 2 n to zs ∧ e = .returned (.tuple #[.int .i64 to, .int .i64 0])) ∧ w' = w := by
  have H : Hid (Hol w v zs) := h
  clear h
  have tail : ∀ {w : World}, Hid (Hol w v zs) → Calls Tryd.prog 12 #[.int .i64 n, .int .i64 (-1), v] w fun e w' => (e = .returned (.tuple #[.int .i64 0, .int .i64 4]) ∨ ∃ to, Rolled 2 n to zs ∧ e = .returned (.tuple #[.int .i64 to, .int .i64 0])) ∧ w' = w := by
    intro w H
    refine (look_down n v zs w h1 h2 H.out).mono ?_
    rintro e w1 ⟨h | ⟨to, ⟨a, b, c, d⟩, h⟩, rfl⟩
    · exact ⟨Or.inl h, rfl⟩
    · exact ⟨Or.inr ⟨to, ⟨a, by omega, c, Or.inr ⟨by omega, b, d⟩⟩, h⟩, rfl⟩
  have TL := (show Hid _ from @tail)
  clear tail
  go_enter Tryd.func13, Tryd.ntmps13
  go_wp2_with fail
  refine (look_up n v zs _ h1 h2 H.out).mono ?_
  rintro e w1 ⟨rfl | ⟨to, hto, rfl⟩, rfl⟩
  · go_wp2_with fail
    refine (TL.out H).mono ?_
    rintro e w1 ⟨rfl | ⟨to, hto, rfl⟩, rfl⟩
    · go_wp2_with fail
      refine bodyPost_ret (v := .tuple #[.int .i64 0, .int .i64 4]) (by simp [results, Tryd.results13, go_sem]) rfl ⟨Or.inl rfl, rfl⟩
    · have HT : Hid (Rolled 2 n to zs) := hto
      clear hto
      go_wp2_with fail
      refine bodyPost_ret (v := .tuple #[.int .i64 to, .int .i64 0]) (by simp [results, Tryd.results13, go_sem]) rfl ⟨Or.inr ⟨to, HT.out, rfl⟩, rfl⟩
  · have HT := (show Hid _ from hto)
    obtain ⟨y, m, d, D⟩ := date_ex n h1 h2
    obtain ⟨y', m', d', D'⟩ := date_ex to (by omega) (by omega)
    clear hto
    by_cases hs : y = y' ∧ m = m'
    · have hsd : decide (y = y' ∧ m = m') = true := decide_eq_true hs
      have HS : Hid (y = y' ∧ m = m') := hs
      clear hs
      go_wp2_with fail
      refine (sameMonth_ok n to y m d y' m' d' _ D D').mono ?_
      rintro e w1 ⟨rfl, rfl⟩
      rw [hsd]
      go_wp2_with fail
      obtain ⟨a, b, c, f⟩ := HT.out
      refine bodyPost_ret (v := .tuple #[.int .i64 to, .int .i64 0]) (by simp [results, Tryd.results13, go_sem]) rfl ⟨Or.inr ⟨to, ⟨by omega, b, c, Or.inl ⟨by omega, a, f, fun _ y1 m1 d1 y2 m2 d2 E1 E2 => ?_⟩⟩, rfl⟩, rfl⟩
      rw [(E1.same D).2.1, (E2.same D').2.1]
      exact HS.out.2
    · have hsd : decide (y = y' ∧ m = m') = false := decide_eq_false hs
      clear hs
      go_wp2_with fail
      refine (sameMonth_ok n to y m d y' m' d' _ D D').mono ?_
      rintro e w1 ⟨rfl, rfl⟩
      rw [hsd]
      go_wp2_with fail
      refine (TL.out H).mono ?_
      rintro e w1 ⟨rfl | ⟨to, hto, rfl⟩, rfl⟩
      · go_wp2_with fail
        refine bodyPost_ret (v := .tuple #[.int .i64 0, .int .i64 4]) (by simp [results, Tryd.results13, go_sem]) rfl ⟨Or.inl rfl, rfl⟩
      · have HT2 : Hid (Rolled 2 n to zs) := hto
        clear hto
        go_wp2_with fail
        refine bodyPost_ret (v := .tuple #[.int .i64 to, .int .i64 0]) (by simp [results, Tryd.results13, go_sem]) rfl ⟨Or.inr ⟨to, HT2.out, rfl⟩, rfl⟩
theorem Roll_0 (n : Int) (v : Value) (zs : List Int) (w : World) (h1 : 1 ≤ n) (h2 : n ≤ 3652059) (h : Hol w v zs) :
    Calls Tryd.prog 5 #[.int .i64 n, v, .int .i64 0] w fun e w' => (e = .returned (.tuple #[.int .i64 0, .int .i64 4]) ∨ ∃ to, Rolled 0 n to zs ∧ e = .returned (.tuple #[.int .i64 to, .int .i64 0])) ∧ w' = w := by
  obtain ⟨⟨a, c, rfl⟩, hm⟩ := h.form
  have H : Hid (Hol w (.slice a zs.length c) zs) := h
  clear h
  go_enter Tryd.func5, Tryd.ntmps5
  go_wp2_with fail
  refine (isDay_yes n _ h1 h2).mono ?_
  rintro e w1 ⟨rfl, rfl⟩
  go_wp2_with fail
  refine (look_up n _ zs _ h1 h2 H.out).mono ?_
  rintro e w1 ⟨rfl | ⟨to, hto, rfl⟩, rfl⟩
  · go_wp2_with fail
    refine bodyPost_ret (v := .tuple #[.int .i64 0, .int .i64 4]) (by simp [results, Tryd.results5, go_sem]) rfl ⟨Or.inl rfl, rfl⟩
  · have HT : Hid (Rolled 0 n to zs) := (show Rolled 0 n to zs from ⟨by omega, hto.2.1, hto.2.2.1, Or.inl ⟨by omega, hto.1, hto.2.2.2, fun h => by omega⟩⟩)
    clear hto
    go_wp2_with fail
    refine bodyPost_ret (v := .tuple #[.int .i64 to, .int .i64 0]) (by simp [results, Tryd.results5, go_sem]) rfl ⟨Or.inr ⟨to, HT.out, rfl⟩, rfl⟩
theorem Roll_1 (n : Int) (v : Value) (zs : List Int) (w : World) (h1 : 1 ≤ n) (h2 : n ≤ 3652059) (h : Hol w v zs) :
    Calls Tryd.prog 5 #[.int .i64 n, v, .int .i64 1] w fun e w' => (e = .returned (.tuple #[.int .i64 0, .int .i64 4]) ∨ ∃ to, Rolled 1 n to zs ∧ e = .returned (.tuple #[.int .i64 to, .int .i64 0])) ∧ w' = w := by
  obtain ⟨⟨a, c, rfl⟩, hm⟩ := h.form
  have H : Hid (Hol w (.slice a zs.length c) zs) := h
  clear h
  go_enter Tryd.func5, Tryd.ntmps5
  go_wp2_with fail
  refine (isDay_yes n _ h1 h2).mono ?_
  rintro e w1 ⟨rfl, rfl⟩
  go_wp2_with fail
  refine (look_down n _ zs _ h1 h2 H.out).mono ?_
  rintro e w1 ⟨rfl | ⟨to, hto, rfl⟩, rfl⟩
  · go_wp2_with fail
    refine bodyPost_ret (v := .tuple #[.int .i64 0, .int .i64 4]) (by simp [results, Tryd.results5, go_sem]) rfl ⟨Or.inl rfl, rfl⟩
  · have HT : Hid (Rolled 1 n to zs) := (show Rolled 1 n to zs from ⟨hto.1, by omega, hto.2.2.1, Or.inr ⟨by omega, hto.2.1, hto.2.2.2⟩⟩)
    clear hto
    go_wp2_with fail
    refine bodyPost_ret (v := .tuple #[.int .i64 to, .int .i64 0]) (by simp [results, Tryd.results5, go_sem]) rfl ⟨Or.inr ⟨to, HT.out, rfl⟩, rfl⟩
theorem Roll_2 (n : Int) (v : Value) (zs : List Int) (w : World) (h1 : 1 ≤ n) (h2 : n ≤ 3652059) (h : Hol w v zs) :
    Calls Tryd.prog 5 #[.int .i64 n, v, .int .i64 2] w fun e w' => (e = .returned (.tuple #[.int .i64 0, .int .i64 4]) ∨ ∃ to, Rolled 2 n to zs ∧ e = .returned (.tuple #[.int .i64 to, .int .i64 0])) ∧ w' = w := by
  obtain ⟨⟨a, c, rfl⟩, hm⟩ := h.form
  have H : Hid (Hol w (.slice a zs.length c) zs) := h
  clear h
  go_enter Tryd.func5, Tryd.ntmps5
  go_wp2_with fail
  refine (isDay_yes n _ h1 h2).mono ?_
  rintro e w1 ⟨rfl, rfl⟩
  go_wp2_with fail
  refine (within_ok n _ zs _ h1 h2 H.out).mono ?_
  rintro e w1 ⟨rfl | ⟨to, hto, rfl⟩, rfl⟩
  · go_wp2_with fail
    refine bodyPost_ret (v := .tuple #[.int .i64 0, .int .i64 4]) (by simp [results, Tryd.results5, go_sem]) rfl ⟨Or.inl rfl, rfl⟩
  · have HT : Hid (Rolled 2 n to zs) := (show Rolled 2 n to zs from hto)
    clear hto
    go_wp2_with fail
    refine bodyPost_ret (v := .tuple #[.int .i64 to, .int .i64 0]) (by simp [results, Tryd.results5, go_sem]) rfl ⟨Or.inr ⟨to, HT.out, rfl⟩, rfl⟩

end Go.Proofs.YthbnjdkmlendhaaDoor
