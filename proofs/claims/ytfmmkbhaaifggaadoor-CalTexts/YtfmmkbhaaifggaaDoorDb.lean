/- Texts of days: Parse. -/
import Derived.Test.YtfmmkbhaaifggaaDoorDa
import Derived.Test.YtfmmkbhaaifggaaDoorCn
import Derived.Test.YtfmmkbhaaifggaaDoorCs
import Derived.Test.YtfmmkbhaaifggaaDoorGy
import Derived.MakeChecks
import Derived.Deep.Cut
namespace Go.Proofs.YtfmmkbhaaifggaaDoor
open Go.RowKit
set_option linter.unusedVariables false

theorem number_both (y m d : Int) : ∃ a e : Int, (e = 0 → Date a y m d) ∧ (∀ w, Calls Tryd.prog 11 #[.int .i64 y, .int .i64 m, .int .i64 d] w fun r w' => r = .returned (.tuple #[.int .i64 a, .int .i64 e]) ∧ w' = w)
    ∧ (∀ w, Calls Tryd.prog 13 #[.int .i64 y, .int .i64 m, .int .i64 d] w fun r w' => r = .returned (.tuple #[.int .i64 a, .int .i64 e]) ∧ w' = w) := by
  by_cases hy : 1 ≤ y ∧ y ≤ 9999
  · obtain ⟨y1, y2⟩ := hy
    have ry1 : decide (y < 1) = false := decide_eq_false (by omega)
    have ry2 : decide (9999 < y) = false := decide_eq_false (by omega)
    by_cases hm : 1 ≤ m ∧ m ≤ 12
    · obtain ⟨m1, m2⟩ := hm
      have rm1 : decide (m < 1) = false := decide_eq_false (by omega)
      have rm2 : decide (12 < m) = false := decide_eq_false (by omega)
      by_cases hd1 : d < 1
      · refine ⟨0, 9, (fun h => absurd h (by decide)), fun w => ?_, fun w => ?_⟩
        · go_enter Tryd.func11, Tryd.ntmps11
          go_wp2_with (first | (go_at_call 19; refine (isYear_yes _ _ y1 y2).mono ?_; rintro e w1 ⟨rfl, rfl⟩) | (go_at_call 20; refine (isMonth_yes _ _ m1 m2).mono ?_; rintro e w1 ⟨rfl, rfl⟩))
          refine bodyPost_ret (v := .tuple #[.int .i64 0, .int .i64 9]) (by simp [results, Tryd.results11, go_sem]) rfl ⟨rfl, rfl⟩
        · go_enter Tryd.func13, Tryd.ntmps13
          go_wp2_with fail
          refine bodyPost_ret (v := .tuple #[.int .i64 0, .int .i64 9]) (by simp [results, Tryd.results13, go_sem]) rfl ⟨rfl, rfl⟩
      · have rd1 : decide (d < 1) = false := decide_eq_false hd1
        by_cases hd2 : mlen y m < d
        · refine ⟨0, 9, (fun h => absurd h (by decide)), fun w => ?_, fun w => ?_⟩
          · go_enter Tryd.func11, Tryd.ntmps11
            go_wp2_with (first | (go_at_call 19; refine (isYear_yes _ _ y1 y2).mono ?_; rintro e w1 ⟨rfl, rfl⟩) | (go_at_call 20; refine (isMonth_yes _ _ m1 m2).mono ?_; rintro e w1 ⟨rfl, rfl⟩) | (go_at_call 21; refine (length_ok y m _ (by omega)).mono ?_; rintro e w1 ⟨rfl, rfl⟩))
            refine bodyPost_ret (v := .tuple #[.int .i64 0, .int .i64 9]) (by simp [results, Tryd.results11, go_sem]) rfl ⟨rfl, rfl⟩
          · go_enter Tryd.func13, Tryd.ntmps13
            go_wp2_with (first | (go_at_call 23; refine (rLength_ok y m _ (by omega)).mono ?_; rintro e w1 ⟨rfl, rfl⟩))
            refine bodyPost_ret (v := .tuple #[.int .i64 0, .int .i64 9]) (by simp [results, Tryd.results13, go_sem]) rfl ⟨rfl, rfl⟩
        · have D : Date (first y + ahead y (m - 1).toNat + d) y m d := ⟨y1, y2, m1, m2, by omega, by omega, rfl⟩
          have rd2 : decide (mlen y m < d) = false := decide_eq_false hd2
          have h31 := mlen_hi y m
          refine ⟨_, 0, (fun _ => D), fun w => Number_ok _ y m d w D, fun w => ?_⟩
          go_enter Tryd.func13, Tryd.ntmps13
          go_wp2_with (first | (go_at_call 23; refine (rLength_ok y m _ (by omega)).mono ?_; rintro e w1 ⟨rfl, rfl⟩) | (go_at_call 24; refine (rNumber_ok y m d _ y1 y2 m1 m2 (by omega) (by omega)).mono ?_; rintro e w1 ⟨rfl, rfl⟩))
          refine bodyPost_ret (v := .tuple #[.int .i64 (first y + ahead y (m - 1).toNat + d), .int .i64 0]) (by simp [results, Tryd.results13, go_sem]) rfl ⟨rfl, rfl⟩
    · have HM : Hid (¬ (1 ≤ m ∧ m ≤ 12)) := hm
      refine ⟨0, 9, (fun h => absurd h (by decide)), fun w => ?_, fun w => ?_⟩
      · clear hm
        go_enter Tryd.func11, Tryd.ntmps11
        go_wp2_with (first | (go_at_call 19; refine (isYear_yes _ _ y1 y2).mono ?_; rintro e w1 ⟨rfl, rfl⟩) | (go_at_call 20; refine (isMonth_no _ _ HM.out).mono ?_; rintro e w1 ⟨rfl, rfl⟩))
        refine bodyPost_ret (v := .tuple #[.int .i64 0, .int .i64 9]) (by simp [results, Tryd.results11, go_sem]) rfl ⟨rfl, rfl⟩
      · by_cases h1 : m < 1
        · clear hm
          go_enter Tryd.func13, Tryd.ntmps13
          go_wp2_with fail
          refine bodyPost_ret (v := .tuple #[.int .i64 0, .int .i64 9]) (by simp [results, Tryd.results13, go_sem]) rfl ⟨rfl, rfl⟩
        · have h2 : 12 < m := by omega
          have rm1 : decide (m < 1) = false := decide_eq_false h1
          clear hm
          go_enter Tryd.func13, Tryd.ntmps13
          go_wp2_with fail
          refine bodyPost_ret (v := .tuple #[.int .i64 0, .int .i64 9]) (by simp [results, Tryd.results13, go_sem]) rfl ⟨rfl, rfl⟩
  · have HY : Hid (¬ (1 ≤ y ∧ y ≤ 9999)) := hy
    refine ⟨0, 1, (fun h => absurd h (by decide)), fun w => ?_, fun w => ?_⟩
    · clear hy
      go_enter Tryd.func11, Tryd.ntmps11
      go_wp2_with (first | (go_at_call 19; refine (isYear_no _ _ HY.out).mono ?_; rintro e w1 ⟨rfl, rfl⟩))
      refine bodyPost_ret (v := .tuple #[.int .i64 0, .int .i64 1]) (by simp [results, Tryd.results11, go_sem]) rfl ⟨rfl, rfl⟩
    · by_cases h1 : y < 1
      · clear hy
        go_enter Tryd.func13, Tryd.ntmps13
        go_wp2_with fail
        refine bodyPost_ret (v := .tuple #[.int .i64 0, .int .i64 1]) (by simp [results, Tryd.results13, go_sem]) rfl ⟨rfl, rfl⟩
      · have h2 : 9999 < y := by omega
        have rm1 : decide (y < 1) = false := decide_eq_false h1
        clear hy
        go_enter Tryd.func13, Tryd.ntmps13
        go_wp2_with fail
        refine bodyPost_ret (v := .tuple #[.int .i64 0, .int .i64 1]) (by simp [results, Tryd.results13, go_sem]) rfl ⟨rfl, rfl⟩
/-- the number that the bytes from a on, k of them, tell -/
def dv (s : ByteArray) (a : Nat) : Nat → Int
  | 0 => 0
  | k + 1 => dv s a k * 10 + (chr s (a + k) - 48) % 256
theorem chr_ext (s : ByteArray) (a b i : Nat) (h : a + i < b) (hb : b ≤ s.size) : chr (s.extract a b) i = chr s (a + i) := by
  have h1 : i < (s.extract a b).size := by rw [ByteArray.size_extract]; omega
  have h2 : a + i < s.size := by omega
  rw [chr_at h1, chr_at h2, ByteArray.getElem_extract]
theorem dv_ext (s : ByteArray) (a b : Nat) (hb : b ≤ s.size) : ∀ k, a + k ≤ b → dval (s.extract a b) k = dv s a k
  | 0, _ => rfl
  | k + 1, h => by rw [dval, dv, dv_ext s a b hb k (by omega), chr_ext s a b k (by omega) hb]
theorem val_ok (s : ByteArray) (a b k : Nat) (w : World) (hb : b ≤ s.size) (e : a + k = b) (hk : k ≤ 4) :
    Calls Tryd.prog 12 #[.string (s.extract a b)] w fun e w' => e = .returned (.int .i64 (dv s a k)) ∧ w' = w := by
  have h1 : (s.extract a b).size = k := by rw [ByteArray.size_extract]; omega
  have := value_ok (s.extract a b) w (by omega)
  rw [h1, dv_ext s a b hb k (by omega)] at this
  exact this
theorem Parse_text (s : ByteArray) (w : World) (h : ¬ (s.size = 10 ∧ Form s)) :
    Calls Tryd.prog 4 #[.string s] w fun e w' => e = .returned (.tuple #[.int .i64 0, .int .i64 6]) ∧ Below w.heap.size w w' := by
  have hf : Calls Tryd.prog 10 #[.string s] w fun e w' => e = .returned (.bool false) ∧ Below w.heap.size w w' := by
    by_cases h10 : s.size = 10
    · have := hasForm_ok s w h10
      have hn : ¬ Form s := fun F => h ⟨h10, F⟩
      simpa [hn] using this
    · exact hasForm_len s w h10
  clear h
  go_enter Tryd.func4, Tryd.ntmps4
  go_wp2_with fail
  refine hf.mono ?_
  rintro e w1 ⟨rfl, b1⟩
  go_wp2_with fail
  exact bodyPost_ret (v := .tuple #[.int .i64 0, .int .i64 6]) (by simp [results, Tryd.results4, go_sem]) rfl ⟨rfl, b1⟩
set_option maxHeartbeats 4000000 in
theorem Parse_yes (s : ByteArray) (a Y M D : Int) (w : World) (h : s.size = 10) (F : Form s) (hY : dv s 0 4 = Y) (hM : dv s 5 2 = M) (hD : dv s 8 2 = D)
    (hN : ∀ w, Calls Tryd.prog 11 #[.int .i64 Y, .int .i64 M, .int .i64 D] w fun r w' => r = .returned (.tuple #[.int .i64 a, .int .i64 0]) ∧ w' = w) :
    Calls Tryd.prog 4 #[.string s] w fun e w' => e = .returned (.tuple #[.int .i64 a, .int .i64 0]) ∧ Below w.heap.size w w' := by
  have hf := hasForm_ok s w h
  have v1 := fun w => val_ok s 0 4 4 w (by omega) rfl (by decide)
  have v2 := fun w => val_ok s 5 7 2 w (by omega) rfl (by decide)
  have v3 := fun w => val_ok s 8 10 2 w (by omega) rfl (by decide)
  rw [hY] at v1
  rw [hM] at v2
  rw [hD] at v3
  rw [show decide (Form s) = true from decide_eq_true F] at hf
  clear F hY hM hD
  have hI : (s.size : Int) = 10 := by omega
  go_enter Tryd.func4, Tryd.ntmps4
  go_wp2_with fail
  refine hf.mono ?_
  rintro e w1 ⟨rfl, b1⟩
  clear hf
  go_upto_region 3 with fail
  refine wp_region_noPanic ?_
  refine wp_region_held_drew (S := fun w' => Below w.heap.size w w') (by kernel_rfl) b1.drew (fun hHeld => ?_)
  clear b1
  generalize w1.drew = wz at *
  refine takeD 0 10 (.string s) (by exact rfl) rfl (by kernel_rfl) (by kernel_rfl) (by kernel_rfl) (fun _ _ _ h => h) (Or.inl ⟨by rfl, ?_⟩) (by assumption) ?_
  · intro wq hS
    go_simp
  try simp only [Act.put, List.setIfInBounds_toArray, List.set_cons_zero, List.set_cons_succ]
  refine takeD 1 11 (.string (s.extract 0 4)) (by exact rfl) rfl (by kernel_rfl) (by kernel_rfl) (by kernel_rfl) (fun _ _ _ h => h) (Or.inl ⟨by rfl, ?_⟩) (by assumption) ?_
  · intro wq hS
    go_simp
  try simp only [Act.put, List.setIfInBounds_toArray, List.set_cons_zero, List.set_cons_succ]
  refine takeD 3 13 (.string s) (by exact rfl) rfl (by kernel_rfl) (by kernel_rfl) (by kernel_rfl) (fun _ _ _ h => h) (Or.inl ⟨by rfl, ?_⟩) (by assumption) ?_
  · intro wq hS
    go_simp
  try simp only [Act.put, List.setIfInBounds_toArray, List.set_cons_zero, List.set_cons_succ]
  refine takeD 4 14 (.string (s.extract 5 7)) (by exact rfl) rfl (by kernel_rfl) (by kernel_rfl) (by kernel_rfl) (fun _ _ _ h => h) (Or.inl ⟨by rfl, ?_⟩) (by assumption) ?_
  · intro wq hS
    go_simp
  try simp only [Act.put, List.setIfInBounds_toArray, List.set_cons_zero, List.set_cons_succ]
  refine takeD 6 16 (.string s) (by exact rfl) rfl (by kernel_rfl) (by kernel_rfl) (by kernel_rfl) (fun _ _ _ h => h) (Or.inl ⟨by rfl, ?_⟩) (by assumption) ?_
  · intro wq hS
    go_simp
  try simp only [Act.put, List.setIfInBounds_toArray, List.set_cons_zero, List.set_cons_succ]
  refine takeD 7 17 (.string (s.extract 8 10)) (by exact rfl) rfl (by kernel_rfl) (by kernel_rfl) (by kernel_rfl) (fun _ _ _ h => h) (Or.inl ⟨by rfl, ?_⟩) (by assumption) ?_
  · intro wq hS
    go_simp
  try simp only [Act.put, List.setIfInBounds_toArray, List.set_cons_zero, List.set_cons_succ]
  refine wpAnyH_ready (rs := [2]) (by kernel_rfl) (by simp) ?_
  refine AllReadyH.cons (by exact rfl) (fun K hK => ?_) AllReadyH.nil
  go_simp
  refine (v1 _).mono ?_
  rintro e w2 ⟨rfl, hq⟩
  obtain rfl := hq.symm
  clear hq
  go_wp2_with fail
  refine hK.out _ _ hHeld (fun hHeld => ?_)
  try simp only [Act.put, List.setIfInBounds_toArray, List.set_cons_zero, List.set_cons_succ]
  clear hK K
  refine wpAnyH_ready (rs := [5]) (by kernel_rfl) (by simp) ?_
  refine AllReadyH.cons (by exact rfl) (fun K hK => ?_) AllReadyH.nil
  go_simp
  refine (v2 _).mono ?_
  rintro e w2 ⟨rfl, hq⟩
  obtain rfl := hq.symm
  clear hq
  go_wp2_with fail
  refine hK.out _ _ hHeld (fun hHeld => ?_)
  try simp only [Act.put, List.setIfInBounds_toArray, List.set_cons_zero, List.set_cons_succ]
  clear hK K
  refine wpAnyH_ready (rs := [8]) (by kernel_rfl) (by simp) ?_
  refine AllReadyH.cons (by exact rfl) (fun K hK => ?_) AllReadyH.nil
  go_simp
  refine (v3 _).mono ?_
  rintro e w2 ⟨rfl, hq⟩
  obtain rfl := hq.symm
  clear hq
  go_wp2_with fail
  refine hK.out _ _ hHeld (fun hHeld => ?_)
  try simp only [Act.put, List.setIfInBounds_toArray, List.set_cons_zero, List.set_cons_succ]
  clear hK K
  refine wpAnyH_ready (rs := [9]) (by kernel_rfl) (by simp) ?_
  refine AllReadyH.cons (by exact rfl) (fun K hK => ?_) AllReadyH.nil
  go_simp
  refine (hN _).mono ?_
  rintro e w2 ⟨rfl, hq⟩
  obtain rfl := hq.symm
  clear hq
  go_wp2_with fail
  refine hK.out _ _ hHeld (fun hHeld => ?_)
  try simp only [Act.put, List.setIfInBounds_toArray, List.set_cons_zero, List.set_cons_succ]
  clear hK K
  refine takeD 10 9 (.tuple #[.int .i64 a, .int .i64 0]) (by exact rfl) rfl (by kernel_rfl) (by kernel_rfl) (by kernel_rfl) (fun _ _ _ h => h) (Or.inl ⟨by rfl, ?_⟩) (by assumption) ?_
  · intro wq hS
    go_simp
  try simp only [Act.put, List.setIfInBounds_toArray, List.set_cons_zero, List.set_cons_succ]
  refine takeD 11 20 (.int .i64 a) (by exact rfl) rfl (by kernel_rfl) (by kernel_rfl) (by kernel_rfl) (fun _ _ _ h => h) (Or.inl ⟨by rfl, ?_⟩) (by assumption) ?_
  · intro wq hS
    go_simp
  try simp only [Act.put, List.setIfInBounds_toArray, List.set_cons_zero, List.set_cons_succ]
  refine takeD 12 21 (.int .i64 0) (by exact rfl) rfl (by kernel_rfl) (by kernel_rfl) (by kernel_rfl) (fun _ _ _ h => h) (Or.inl ⟨by rfl, ?_⟩) (by assumption) ?_
  · intro wq hS
    go_simp
  try simp only [Act.put, List.setIfInBounds_toArray, List.set_cons_zero, List.set_cons_succ]
  refine takeD 13 4 (.int .i64 a) (by exact rfl) rfl (by kernel_rfl) (by kernel_rfl) (by kernel_rfl) (fun _ _ _ h => h) (Or.inl ⟨by rfl, ?_⟩) (by assumption) ?_
  · intro wq hS
    go_simp
  try simp only [Act.put, List.setIfInBounds_toArray, List.set_cons_zero, List.set_cons_succ]
  refine takeD 14 5 (.int .i64 0) (by exact rfl) rfl (by kernel_rfl) (by kernel_rfl) (by kernel_rfl) (fun _ _ _ h => h) (Or.inl ⟨by rfl, ?_⟩) (by assumption) ?_
  · intro wq hS
    go_simp
  try simp only [Act.put, List.setIfInBounds_toArray, List.set_cons_zero, List.set_cons_succ]
  refine wpAnyH_done (by kernel_rfl) ?_ _
  refine NoPanic.normal ?_
  go_wp2_with fail
  exact bodyPost_ret (v := .tuple #[.int .i64 a, .int .i64 0]) (by simp [results, Tryd.results4, go_sem]) rfl ⟨rfl, hHeld⟩
set_option maxHeartbeats 4000000 in
theorem Parse_no (s : ByteArray) (a e Y M D : Int) (w : World) (h : s.size = 10) (F : Form s) (he : ¬ e = 0) (hY : dv s 0 4 = Y) (hM : dv s 5 2 = M) (hD : dv s 8 2 = D)
    (hN : ∀ w, Calls Tryd.prog 11 #[.int .i64 Y, .int .i64 M, .int .i64 D] w fun r w' => r = .returned (.tuple #[.int .i64 a, .int .i64 e]) ∧ w' = w) :
    Calls Tryd.prog 4 #[.string s] w fun e w' => e = .returned (.tuple #[.int .i64 0, .int .i64 9]) ∧ Below w.heap.size w w' := by
  have hf := hasForm_ok s w h
  have v1 := fun w => val_ok s 0 4 4 w (by omega) rfl (by decide)
  have v2 := fun w => val_ok s 5 7 2 w (by omega) rfl (by decide)
  have v3 := fun w => val_ok s 8 10 2 w (by omega) rfl (by decide)
  rw [hY] at v1
  rw [hM] at v2
  rw [hD] at v3
  rw [show decide (Form s) = true from decide_eq_true F] at hf
  clear F hY hM hD
  have hI : (s.size : Int) = 10 := by omega
  go_enter Tryd.func4, Tryd.ntmps4
  go_wp2_with fail
  refine hf.mono ?_
  rintro e w1 ⟨rfl, b1⟩
  clear hf
  go_upto_region 3 with fail
  refine wp_region_noPanic ?_
  refine wp_region_held_drew (S := fun w' => Below w.heap.size w w') (by kernel_rfl) b1.drew (fun hHeld => ?_)
  clear b1
  generalize w1.drew = wz at *
  refine takeD 0 10 (.string s) (by exact rfl) rfl (by kernel_rfl) (by kernel_rfl) (by kernel_rfl) (fun _ _ _ h => h) (Or.inl ⟨by rfl, ?_⟩) (by assumption) ?_
  · intro wq hS
    go_simp
  try simp only [Act.put, List.setIfInBounds_toArray, List.set_cons_zero, List.set_cons_succ]
  refine takeD 1 11 (.string (s.extract 0 4)) (by exact rfl) rfl (by kernel_rfl) (by kernel_rfl) (by kernel_rfl) (fun _ _ _ h => h) (Or.inl ⟨by rfl, ?_⟩) (by assumption) ?_
  · intro wq hS
    go_simp
  try simp only [Act.put, List.setIfInBounds_toArray, List.set_cons_zero, List.set_cons_succ]
  refine takeD 3 13 (.string s) (by exact rfl) rfl (by kernel_rfl) (by kernel_rfl) (by kernel_rfl) (fun _ _ _ h => h) (Or.inl ⟨by rfl, ?_⟩) (by assumption) ?_
  · intro wq hS
    go_simp
  try simp only [Act.put, List.setIfInBounds_toArray, List.set_cons_zero, List.set_cons_succ]
  refine takeD 4 14 (.string (s.extract 5 7)) (by exact rfl) rfl (by kernel_rfl) (by kernel_rfl) (by kernel_rfl) (fun _ _ _ h => h) (Or.inl ⟨by rfl, ?_⟩) (by assumption) ?_
  · intro wq hS
    go_simp
  try simp only [Act.put, List.setIfInBounds_toArray, List.set_cons_zero, List.set_cons_succ]
  refine takeD 6 16 (.string s) (by exact rfl) rfl (by kernel_rfl) (by kernel_rfl) (by kernel_rfl) (fun _ _ _ h => h) (Or.inl ⟨by rfl, ?_⟩) (by assumption) ?_
  · intro wq hS
    go_simp
  try simp only [Act.put, List.setIfInBounds_toArray, List.set_cons_zero, List.set_cons_succ]
  refine takeD 7 17 (.string (s.extract 8 10)) (by exact rfl) rfl (by kernel_rfl) (by kernel_rfl) (by kernel_rfl) (fun _ _ _ h => h) (Or.inl ⟨by rfl, ?_⟩) (by assumption) ?_
  · intro wq hS
    go_simp
  try simp only [Act.put, List.setIfInBounds_toArray, List.set_cons_zero, List.set_cons_succ]
  refine wpAnyH_ready (rs := [2]) (by kernel_rfl) (by simp) ?_
  refine AllReadyH.cons (by exact rfl) (fun K hK => ?_) AllReadyH.nil
  go_simp
  refine (v1 _).mono ?_
  rintro e w2 ⟨rfl, hq⟩
  obtain rfl := hq.symm
  clear hq
  go_wp2_with fail
  refine hK.out _ _ hHeld (fun hHeld => ?_)
  try simp only [Act.put, List.setIfInBounds_toArray, List.set_cons_zero, List.set_cons_succ]
  clear hK K
  refine wpAnyH_ready (rs := [5]) (by kernel_rfl) (by simp) ?_
  refine AllReadyH.cons (by exact rfl) (fun K hK => ?_) AllReadyH.nil
  go_simp
  refine (v2 _).mono ?_
  rintro e w2 ⟨rfl, hq⟩
  obtain rfl := hq.symm
  clear hq
  go_wp2_with fail
  refine hK.out _ _ hHeld (fun hHeld => ?_)
  try simp only [Act.put, List.setIfInBounds_toArray, List.set_cons_zero, List.set_cons_succ]
  clear hK K
  refine wpAnyH_ready (rs := [8]) (by kernel_rfl) (by simp) ?_
  refine AllReadyH.cons (by exact rfl) (fun K hK => ?_) AllReadyH.nil
  go_simp
  refine (v3 _).mono ?_
  rintro e w2 ⟨rfl, hq⟩
  obtain rfl := hq.symm
  clear hq
  go_wp2_with fail
  refine hK.out _ _ hHeld (fun hHeld => ?_)
  try simp only [Act.put, List.setIfInBounds_toArray, List.set_cons_zero, List.set_cons_succ]
  clear hK K
  refine wpAnyH_ready (rs := [9]) (by kernel_rfl) (by simp) ?_
  refine AllReadyH.cons (by exact rfl) (fun K hK => ?_) AllReadyH.nil
  go_simp
  refine (hN _).mono ?_
  rintro e w2 ⟨rfl, hq⟩
  obtain rfl := hq.symm
  clear hq
  go_wp2_with fail
  refine hK.out _ _ hHeld (fun hHeld => ?_)
  try simp only [Act.put, List.setIfInBounds_toArray, List.set_cons_zero, List.set_cons_succ]
  clear hK K
  refine takeD 10 9 (.tuple #[.int .i64 a, .int .i64 e]) (by exact rfl) rfl (by kernel_rfl) (by kernel_rfl) (by kernel_rfl) (fun _ _ _ h => h) (Or.inl ⟨by rfl, ?_⟩) (by assumption) ?_
  · intro wq hS
    go_simp
  try simp only [Act.put, List.setIfInBounds_toArray, List.set_cons_zero, List.set_cons_succ]
  refine takeD 11 20 (.int .i64 a) (by exact rfl) rfl (by kernel_rfl) (by kernel_rfl) (by kernel_rfl) (fun _ _ _ h => h) (Or.inl ⟨by rfl, ?_⟩) (by assumption) ?_
  · intro wq hS
    go_simp
  try simp only [Act.put, List.setIfInBounds_toArray, List.set_cons_zero, List.set_cons_succ]
  refine takeD 12 21 (.int .i64 e) (by exact rfl) rfl (by kernel_rfl) (by kernel_rfl) (by kernel_rfl) (fun _ _ _ h => h) (Or.inl ⟨by rfl, ?_⟩) (by assumption) ?_
  · intro wq hS
    go_simp
  try simp only [Act.put, List.setIfInBounds_toArray, List.set_cons_zero, List.set_cons_succ]
  refine takeD 13 4 (.int .i64 a) (by exact rfl) rfl (by kernel_rfl) (by kernel_rfl) (by kernel_rfl) (fun _ _ _ h => h) (Or.inl ⟨by rfl, ?_⟩) (by assumption) ?_
  · intro wq hS
    go_simp
  try simp only [Act.put, List.setIfInBounds_toArray, List.set_cons_zero, List.set_cons_succ]
  refine takeD 14 5 (.int .i64 e) (by exact rfl) rfl (by kernel_rfl) (by kernel_rfl) (by kernel_rfl) (fun _ _ _ h => h) (Or.inl ⟨by rfl, ?_⟩) (by assumption) ?_
  · intro wq hS
    go_simp
  try simp only [Act.put, List.setIfInBounds_toArray, List.set_cons_zero, List.set_cons_succ]
  refine wpAnyH_done (by kernel_rfl) ?_ _
  refine NoPanic.normal ?_
  go_wp2_with fail
  exact bodyPost_ret (v := .tuple #[.int .i64 0, .int .i64 9]) (by simp [results, Tryd.results4, go_sem]) rfl ⟨rfl, hHeld⟩
end Go.Proofs.YtfmmkbhaaifggaaDoor
