/- digits: DigitsFronts' walk. -/
import Derived.Test.YtgcmbiahakampaaJu
namespace Go.Proofs.Ytgcmbiahakampaa
open Go.RowKit
set_option linter.unusedVariables false
set_option linter.unusedSimpArgs false

set_option maxHeartbeats 1000000 in
set_option maxRecDepth 100000 in
theorem fronts_bad (h l s : Int) (cu wr : Nat) (more : ByteArray) (w : World) (hb : Bad h l s) : Calls Try.prog 5 #[.agg #[.int .i64 h, .int .u64 l, .int .i64 s], .int .u8 (cu : Int), .int .u8 (wr : Int), .string more] w fun e w' => e = .returned (.bool true) ∧ Below w.heap.size w w' := by
  have VD_0 := (show Hid _ from va_new w [.int .i64 h, .int .u64 l, .int .i64 s] 24)
  have BB_0 := (show Hid _ from (Below.refl w.heap.size w).alloc (Nat.le_refl _) (.cells #[.int .i64 h, .int .u64 l, .int .i64 s] 24))
  have HB := (show Hid _ from fun w => dwrite_bad h l s w hb)
  clear hb
  go_enter Try.func5, Try.ntmps5
  go_wp2_with fail
  refine (awake02 _).mono ?_
  rintro e w1 ⟨rfl, b1⟩
  have VD_1 := (show Hid _ from VD_0.out.step b1)
  have BB_1 := (show Hid _ from BB_0.out.trans (b1.mono BB_0.out.size))
  clear b1 VD_0 BB_0
  go_wp2_with (refine ldA rfl 24 _ rfl w.heap.size (by rfl) [.int .i64 h, .int .u64 l, .int .i64 s] _ VD_1.out _ Try.underlying24 rfl infoD ?_)
  refine (HB.out _).mono ?_
  rintro e w2 ⟨rfl, b2⟩
  have BB_2 := (show Hid _ from BB_1.out.trans (b2.mono BB_1.out.size))
  clear b2 VD_1 BB_1
  go_wp2_with fail
  go_ret
  exact ⟨rfl, BB_2.out⟩
/-- what the front's parse answers -/
structure Fan (u t : ByteArray) (n : Nat) (x0 x1 x2 at' f : Int) : Prop where
  call : ∀ w, Calls Try.prog 11 #[.string u] w fun e w' => e = .returned (.tuple #[.agg #[.int .i64 x0, .int .u64 x1, .int .i64 x2], .int .i64 at', .int .i64 f]) ∧ Below w.heap.size w w'
  h : f = 0 ∨ (f = 6 ∧ at' = n) ∨ (f = 6 ∧ at' = 0 ∧ n ≠ 0 ∧ bt t 0 = 45)
theorem fan_any {t : ByteArray} {neg : Bool} {i h sc N n : Nat} (T : Txt t neg i h sc N) (hn : n ≤ t.size) : ∃ x0 x1 x2 a f, Fan (t.extract 0 n) t n x0 x1 x2 a f := by
  have hsz : (t.extract 0 n).size = n := by rw [ByteArray.size_extract]; omega
  have hb : bt (t.extract 0 n) n = 256 := by rw [bt_ext _ _ _ _ hn, if_neg (by omega)]
  have C : Cut t (t.extract 0 n) n := ⟨hn, fun k hk => by rw [bt_ext _ _ _ _ hn, if_pos (by omega), Nat.zero_add], fun h => by have := isDg_iff.1 h; omega, by omega, by omega, by have := T.s41; omega⟩
  rcases C.front T hsz.symm with h | ⟨c, s, h⟩ | ⟨h1, h2, h3⟩
  · exact ⟨_, _, _, _, _, ⟨h, Or.inr (Or.inl ⟨rfl, rfl⟩)⟩⟩
  · exact ⟨_, _, _, _, _, ⟨h, Or.inl rfl⟩⟩
  · refine ⟨_, _, _, _, _, ⟨h3, Or.inr (Or.inr ⟨rfl, rfl, h2, ?_⟩)⟩⟩
    rcases T.mi with ⟨_, _, hh⟩ | ⟨hh, _⟩
    · exact hh
    · rw [hh] at h1; cases h1
theorem fan_wrong {t more : ByteArray} {neg : Bool} {i h sc N n wr : Nat} (T : Txt t neg i h sc N) (hn : n ≤ t.size) (hwr : wr < 256) (h1 : ¬ (48 ≤ wr ∧ wr ≤ 57)) (h2 : wr ≠ 45) (h3 : wr ≠ 46) (h4 : n + 1 + more.size ≤ 64) : PF (t.extract 0 n ++ strOfNums [(wr : Int)] ++ more) n := by
  have hsz : (t.extract 0 n).size = n := by rw [ByteArray.size_extract]; omega
  have hs1 : (strOfNums [(wr : Int)]).size = 1 := by rw [strOfNums_size]; rfl
  have hs2 : (t.extract 0 n ++ strOfNums [(wr : Int)]).size = n + 1 := by rw [ByteArray.size_append]; omega
  have hs3 : (t.extract 0 n ++ strOfNums [(wr : Int)] ++ more).size = n + 1 + more.size := by rw [ByteArray.size_append]; omega
  have hq : bt (strOfNums [(wr : Int)]) 0 = wr := by
    have := bt_tx (L := [wr]) (by intro x hx; simp at hx; omega) 0
    exact this
  have hb : bt (t.extract 0 n ++ strOfNums [(wr : Int)] ++ more) n = wr := by rw [bt_app, if_pos (by omega), bt_app, if_neg (by omega), hsz, Nat.sub_self, hq]
  have C : Cut t (t.extract 0 n ++ strOfNums [(wr : Int)] ++ more) n := ⟨hn, fun k hk => by rw [bt_app, if_pos (by omega), bt_app, if_pos (by omega), bt_ext _ _ _ _ hn, if_pos (by omega), Nat.zero_add], fun h => by have := isDg_iff.1 h; omega, by omega, by omega, by omega⟩
  exact C.wrong T (by omega)
set_option maxHeartbeats 1000000 in
set_option maxRecDepth 100000 in
theorem fronts_yes (c : Int) (s : Nat) (cu wr : Nat) (more : ByteArray) (w : World) (ic : InR c) (hs : s ≤ 18) (hcu : cu < 256) (hwr : wr < 256) (hmr : more.size < 4611686018427387904) : Calls Try.prog 5 #[.agg #[.int .i64 (dhi c), .int .u64 (dlo c), .int .i64 (s : Int)], .int .u8 (cu : Int), .int .u8 (wr : Int), .string more] w fun e w' => e = .returned (.bool true) ∧ Below w.heap.size w w' := by
  have VD_0 := (show Hid _ from va_new w [.int .i64 (dhi c), .int .u64 (dlo c), .int .i64 (s : Int)] 24)
  have BB_0 := (show Hid _ from (Below.refl w.heap.size w).alloc (Nat.le_refl _) (.cells #[.int .i64 (dhi c), .int .u64 (dlo c), .int .i64 (s : Int)] 24))
  obtain ⟨K, hK, hW⟩ := dwrite_any c s ic hs
  have T := txt_any c s K ic hs hK
  have HW := (show Hid _ from hW)
  generalize tx (wtx c s K) = t at *
  obtain ⟨n, hn⟩ : ∃ n, n = cu % (t.size + 1) := ⟨_, rfl⟩
  have hnt : n ≤ t.size := by have := Nat.mod_lt cu (show t.size + 1 > 0 by omega); omega
  have hrem : (cu : Int).tmod ((t.size : Int) + 1) = (n : Int) := by rw [hn]; exact (Int.ofNat_tmod cu (t.size + 1)).symm
  obtain ⟨x0, x1, x2, at', f, FA⟩ := fan_any T hnt
  have h0 : 0 < t.size := by have := T.sz; have := T.hp; omega
  have h41 := T.s41
  have hix : (t[0].toNat : Int) = bt t 0 := by rw [bt_in h0]
  have HFA := (show Hid _ from FA)
  have HFW := (show Hid _ from fan_wrong (more := more) (wr := wr) T hnt hwr)
  have HN : Hid (n = cu % (t.size + 1)) := hn
  clear hW hK T hn
  go_enter Try.func5, Try.ntmps5
  go_wp2_with fail
  refine (awake02 _).mono ?_
  rintro e w1 ⟨rfl, b1⟩
  have VD_1 := (show Hid _ from VD_0.out.step b1)
  have BB_1 := (show Hid _ from BB_0.out.trans (b1.mono BB_0.out.size))
  clear b1 VD_0 BB_0
  go_wp2_with (refine ldA rfl 24 _ rfl w.heap.size (by rfl) [.int .i64 (dhi c), .int .u64 (dlo c), .int .i64 (s : Int)] _ VD_1.out _ Try.underlying24 rfl infoD ?_)
  refine (HW.out _).mono ?_
  rintro e w2 ⟨rfl, b2⟩
  have BB_2 := (show Hid _ from BB_1.out.trans (b2.mono BB_1.out.size))
  clear b2 VD_1 BB_1
  go_wp2_with fail
  refine (HFA.out.call _).mono ?_
  rintro e w3 ⟨rfl, b3⟩
  have BB_3 := (show Hid _ from BB_2.out.trans (b3.mono BB_2.out.size))
  clear b3 BB_2
  have hh := HFA.out.h
  clear HFA FA
  rcases hh with rfl | ⟨rfl, rfl⟩ | ⟨rfl, rfl, hn0, hb0⟩
  · go_wp2_with fail
    all_goals try (go_ret; exact ⟨rfl, BB_3.out.alloc BB_3.out.size _⟩)
    · have k1 : ¬ (48 ≤ wr ∧ wr ≤ 57) := by omega
      have k2 : wr ≠ 45 := by omega
      have k3 : wr ≠ 46 := by omega
      have k4 : n + 1 + more.size ≤ 64 := by omega
      have HPF := (show Hid _ from HFW.out k1 k2 k3 k4)
      refine wp_region_noPanic ?_
      refine wp_region_held_drew (S := fun _ => True) (by kernel_rfl) trivial (fun hHeld => ?_)
      refine takeD 0 87 (.string t) (by exact rfl) rfl (by kernel_rfl) (by kernel_rfl) (by kernel_rfl) (fun _ _ _ h => h) (Or.inl ⟨by rfl, ?_⟩) (by assumption) ?_
      · intro wq hS
        go_simp
      try simp only [Act.put, List.setIfInBounds_toArray, List.set_cons_zero, List.set_cons_succ]
      refine takeD 1 88 (.int .i64 (n : Int)) (by exact rfl) rfl (by kernel_rfl) (by kernel_rfl) (by kernel_rfl) (fun _ _ _ h => h) (Or.inl ⟨by rfl, ?_⟩) (by assumption) ?_
      · intro wq hS
        go_simp
      try simp only [Act.put, List.setIfInBounds_toArray, List.set_cons_zero, List.set_cons_succ]
      refine takeD 2 89 (.string (t.extract 0 n)) (by exact rfl) rfl (by kernel_rfl) (by kernel_rfl) (by kernel_rfl) (fun _ _ _ h => h) (Or.inl ⟨by rfl, ?_⟩) (by assumption) ?_
      · intro wq hS
        go_simp
      try simp only [Act.put, List.setIfInBounds_toArray, List.set_cons_zero, List.set_cons_succ]
      refine takeD 3 90 (.int .u8 (wr : Int)) (by exact rfl) rfl (by kernel_rfl) (by kernel_rfl) (by kernel_rfl) (fun _ _ _ h => h) (Or.inl ⟨by rfl, ?_⟩) (by assumption) ?_
      · intro wq hS
        go_simp
      try simp only [Act.put, List.setIfInBounds_toArray, List.set_cons_zero, List.set_cons_succ]
      refine takeD 7 94 (.string more) (by exact rfl) rfl (by kernel_rfl) (by kernel_rfl) (by kernel_rfl) (fun _ _ _ h => h) (Or.inl ⟨by rfl, ?_⟩) (by assumption) ?_
      · intro wq hS
        go_simp
      try simp only [Act.put, List.setIfInBounds_toArray, List.set_cons_zero, List.set_cons_succ]
      clear hHeld
      have BB_4 := (show Hid _ from (BB_3.out.alloc BB_3.out.size (.cells #[.int .i64 x0, .int .u64 x1, .int .i64 x2] 24)).drew)
      clear BB_3
      generalize (w3.alloc (.cells #[.int .i64 x0, .int .u64 x1, .int .i64 x2] 24)).drew = w4 at *
      refine wpAnyH_ready (rs := [4]) (by kernel_rfl) (by simp) ?_
      refine AllReadyH.cons (by exact rfl) (fun K hK => ?_) AllReadyH.nil
      go_simp
      refine hK.out _ _ trivial (fun hHeld => ?_)
      try simp only [Act.put, List.setIfInBounds_toArray, List.set_cons_zero, List.set_cons_succ]
      clear hK K hHeld
      have hcv := run_convert_bytes_arg (P := Try.prog) (w4.alloc (.cells #[.int .u8 (wr : Int)] 5)) 37 5 Try.underlying37 Try.underlying5 w4.heap.size 0 1 1 [(wr : Int)] rfl (by intro i hi; obtain rfl : i = 0 := (by omega); exact (va_new w4 [.int .u8 (wr : Int)] 5).cell 0 rfl) 9 Try.underlying9
      have BB_5 := (show Hid _ from BB_4.out.alloc BB_4.out.size (.cells #[.int .u8 (wr : Int)] 5))
      clear BB_4
      change wpAnyH _ _ _ _ _ _ _ _ (w4.alloc (.cells #[.int .u8 (wr : Int)] 5))
      generalize w4.alloc (.cells #[.int .u8 (wr : Int)] 5) = w5 at *
      
      refine wpAnyH_ready (rs := [5]) (by kernel_rfl) (by simp) ?_
      refine AllReadyH.cons (by exact rfl) (fun K hK => ?_) AllReadyH.nil
      go_simp
      refine hK.out _ _ trivial (fun hHeld => ?_)
      try simp only [Act.put, List.setIfInBounds_toArray, List.set_cons_zero, List.set_cons_succ]
      clear hK K hcv
      refine takeD 6 93 (.string (t.extract 0 n ++ strOfNums [(wr : Int)])) (by exact rfl) rfl (by kernel_rfl) (by kernel_rfl) (by kernel_rfl) (fun _ _ _ h => h) (Or.inl ⟨by rfl, ?_⟩) (by assumption) ?_
      · intro wq hS
        go_simp
        rw [strOfNums_size]
        show n + 1 ≤ _
        omega
      try simp only [Act.put, List.setIfInBounds_toArray, List.set_cons_zero, List.set_cons_succ]
      refine takeD 8 95 (.string (t.extract 0 n ++ strOfNums [(wr : Int)] ++ more)) (by exact rfl) rfl (by kernel_rfl) (by kernel_rfl) (by kernel_rfl) (fun _ _ _ h => h) (Or.inl ⟨by rfl, ?_⟩) (by assumption) ?_
      · intro wq hS
        go_simp
        rw [strOfNums_size]
        show n + 1 + more.size ≤ _
        omega
      try simp only [Act.put, List.setIfInBounds_toArray, List.set_cons_zero, List.set_cons_succ]
      clear hHeld
      refine wpAnyH_ready (rs := [9]) (by kernel_rfl) (by simp) ?_
      refine AllReadyH.cons (by exact rfl) (fun K hK => ?_) AllReadyH.nil
      go_simp
      refine (HPF.out _).mono ?_
      rintro e w6 ⟨rfl, b6⟩
      have BB_6 := (show Hid _ from BB_5.out.trans (b6.mono BB_5.out.size))
      clear b6 BB_5
      go_wp2_with fail
      refine hK.out _ _ trivial (fun hHeld => ?_)
      try simp only [Act.put, List.setIfInBounds_toArray, List.set_cons_zero, List.set_cons_succ]
      clear hK K
      refine takeD 10 86 (.tuple #[.agg #[.int .i64 0, .int .u64 0, .int .i64 0], .int .i64 (n : Int), .int .i64 6]) (by exact rfl) rfl (by kernel_rfl) (by kernel_rfl) (by kernel_rfl) (fun _ _ _ h => h) (Or.inl ⟨by rfl, ?_⟩) (by assumption) ?_
      · intro wq hS
        go_simp
      try simp only [Act.put, List.setIfInBounds_toArray, List.set_cons_zero, List.set_cons_succ]
      refine takeD 11 97 (.agg #[.int .i64 0, .int .u64 0, .int .i64 0]) (by exact rfl) rfl (by kernel_rfl) (by kernel_rfl) (by kernel_rfl) (fun _ _ _ h => h) (Or.inl ⟨by rfl, ?_⟩) (by assumption) ?_
      · intro wq hS
        go_simp
      try simp only [Act.put, List.setIfInBounds_toArray, List.set_cons_zero, List.set_cons_succ]
      refine takeD 12 98 (.int .i64 (n : Int)) (by exact rfl) rfl (by kernel_rfl) (by kernel_rfl) (by kernel_rfl) (fun _ _ _ h => h) (Or.inl ⟨by rfl, ?_⟩) (by assumption) ?_
      · intro wq hS
        go_simp
      try simp only [Act.put, List.setIfInBounds_toArray, List.set_cons_zero, List.set_cons_succ]
      refine takeD 13 99 (.int .i64 6) (by exact rfl) rfl (by kernel_rfl) (by kernel_rfl) (by kernel_rfl) (fun _ _ _ h => h) (Or.inl ⟨by rfl, ?_⟩) (by assumption) ?_
      · intro wq hS
        go_simp
      try simp only [Act.put, List.setIfInBounds_toArray, List.set_cons_zero, List.set_cons_succ]
      refine takeD 14 13 (.int .i64 (n : Int)) (by exact rfl) rfl (by kernel_rfl) (by kernel_rfl) (by kernel_rfl) (fun _ _ _ h => h) (Or.inl ⟨by rfl, ?_⟩) (by assumption) ?_
      · intro wq hS
        go_simp
      try simp only [Act.put, List.setIfInBounds_toArray, List.set_cons_zero, List.set_cons_succ]
      refine takeD 15 14 (.int .i64 6) (by exact rfl) rfl (by kernel_rfl) (by kernel_rfl) (by kernel_rfl) (fun _ _ _ h => h) (Or.inl ⟨by rfl, ?_⟩) (by assumption) ?_
      · intro wq hS
        go_simp
      try simp only [Act.put, List.setIfInBounds_toArray, List.set_cons_zero, List.set_cons_succ]
      clear hHeld
      refine wpAnyH_done (by kernel_rfl) ?_ _
      refine NoPanic.normal ?_
      go_wp2_with fail
      go_ret
      exact ⟨rfl, BB_6.out⟩
    · have k1 : ¬ (48 ≤ wr ∧ wr ≤ 57) := by omega
      have k2 : wr ≠ 45 := by omega
      have k3 : wr ≠ 46 := by omega
      have k4 : n + 1 + more.size ≤ 64 := by omega
      have HPF := (show Hid _ from HFW.out k1 k2 k3 k4)
      refine wp_region_noPanic ?_
      refine wp_region_held_drew (S := fun _ => True) (by kernel_rfl) trivial (fun hHeld => ?_)
      refine takeD 0 87 (.string t) (by exact rfl) rfl (by kernel_rfl) (by kernel_rfl) (by kernel_rfl) (fun _ _ _ h => h) (Or.inl ⟨by rfl, ?_⟩) (by assumption) ?_
      · intro wq hS
        go_simp
      try simp only [Act.put, List.setIfInBounds_toArray, List.set_cons_zero, List.set_cons_succ]
      refine takeD 1 88 (.int .i64 (n : Int)) (by exact rfl) rfl (by kernel_rfl) (by kernel_rfl) (by kernel_rfl) (fun _ _ _ h => h) (Or.inl ⟨by rfl, ?_⟩) (by assumption) ?_
      · intro wq hS
        go_simp
      try simp only [Act.put, List.setIfInBounds_toArray, List.set_cons_zero, List.set_cons_succ]
      refine takeD 2 89 (.string (t.extract 0 n)) (by exact rfl) rfl (by kernel_rfl) (by kernel_rfl) (by kernel_rfl) (fun _ _ _ h => h) (Or.inl ⟨by rfl, ?_⟩) (by assumption) ?_
      · intro wq hS
        go_simp
      try simp only [Act.put, List.setIfInBounds_toArray, List.set_cons_zero, List.set_cons_succ]
      refine takeD 3 90 (.int .u8 (wr : Int)) (by exact rfl) rfl (by kernel_rfl) (by kernel_rfl) (by kernel_rfl) (fun _ _ _ h => h) (Or.inl ⟨by rfl, ?_⟩) (by assumption) ?_
      · intro wq hS
        go_simp
      try simp only [Act.put, List.setIfInBounds_toArray, List.set_cons_zero, List.set_cons_succ]
      refine takeD 7 94 (.string more) (by exact rfl) rfl (by kernel_rfl) (by kernel_rfl) (by kernel_rfl) (fun _ _ _ h => h) (Or.inl ⟨by rfl, ?_⟩) (by assumption) ?_
      · intro wq hS
        go_simp
      try simp only [Act.put, List.setIfInBounds_toArray, List.set_cons_zero, List.set_cons_succ]
      clear hHeld
      have BB_4 := (show Hid _ from (BB_3.out.alloc BB_3.out.size (.cells #[.int .i64 x0, .int .u64 x1, .int .i64 x2] 24)).drew)
      clear BB_3
      generalize (w3.alloc (.cells #[.int .i64 x0, .int .u64 x1, .int .i64 x2] 24)).drew = w4 at *
      refine wpAnyH_ready (rs := [4]) (by kernel_rfl) (by simp) ?_
      refine AllReadyH.cons (by exact rfl) (fun K hK => ?_) AllReadyH.nil
      go_simp
      refine hK.out _ _ trivial (fun hHeld => ?_)
      try simp only [Act.put, List.setIfInBounds_toArray, List.set_cons_zero, List.set_cons_succ]
      clear hK K hHeld
      have hcv := run_convert_bytes_arg (P := Try.prog) (w4.alloc (.cells #[.int .u8 (wr : Int)] 5)) 37 5 Try.underlying37 Try.underlying5 w4.heap.size 0 1 1 [(wr : Int)] rfl (by intro i hi; obtain rfl : i = 0 := (by omega); exact (va_new w4 [.int .u8 (wr : Int)] 5).cell 0 rfl) 9 Try.underlying9
      have BB_5 := (show Hid _ from BB_4.out.alloc BB_4.out.size (.cells #[.int .u8 (wr : Int)] 5))
      clear BB_4
      change wpAnyH _ _ _ _ _ _ _ _ (w4.alloc (.cells #[.int .u8 (wr : Int)] 5))
      generalize w4.alloc (.cells #[.int .u8 (wr : Int)] 5) = w5 at *
      
      refine wpAnyH_ready (rs := [5]) (by kernel_rfl) (by simp) ?_
      refine AllReadyH.cons (by exact rfl) (fun K hK => ?_) AllReadyH.nil
      go_simp
      refine hK.out _ _ trivial (fun hHeld => ?_)
      try simp only [Act.put, List.setIfInBounds_toArray, List.set_cons_zero, List.set_cons_succ]
      clear hK K hcv
      refine takeD 6 93 (.string (t.extract 0 n ++ strOfNums [(wr : Int)])) (by exact rfl) rfl (by kernel_rfl) (by kernel_rfl) (by kernel_rfl) (fun _ _ _ h => h) (Or.inl ⟨by rfl, ?_⟩) (by assumption) ?_
      · intro wq hS
        go_simp
        rw [strOfNums_size]
        show n + 1 ≤ _
        omega
      try simp only [Act.put, List.setIfInBounds_toArray, List.set_cons_zero, List.set_cons_succ]
      refine takeD 8 95 (.string (t.extract 0 n ++ strOfNums [(wr : Int)] ++ more)) (by exact rfl) rfl (by kernel_rfl) (by kernel_rfl) (by kernel_rfl) (fun _ _ _ h => h) (Or.inl ⟨by rfl, ?_⟩) (by assumption) ?_
      · intro wq hS
        go_simp
        rw [strOfNums_size]
        show n + 1 + more.size ≤ _
        omega
      try simp only [Act.put, List.setIfInBounds_toArray, List.set_cons_zero, List.set_cons_succ]
      clear hHeld
      refine wpAnyH_ready (rs := [9]) (by kernel_rfl) (by simp) ?_
      refine AllReadyH.cons (by exact rfl) (fun K hK => ?_) AllReadyH.nil
      go_simp
      refine (HPF.out _).mono ?_
      rintro e w6 ⟨rfl, b6⟩
      have BB_6 := (show Hid _ from BB_5.out.trans (b6.mono BB_5.out.size))
      clear b6 BB_5
      go_wp2_with fail
      refine hK.out _ _ trivial (fun hHeld => ?_)
      try simp only [Act.put, List.setIfInBounds_toArray, List.set_cons_zero, List.set_cons_succ]
      clear hK K
      refine takeD 10 86 (.tuple #[.agg #[.int .i64 0, .int .u64 0, .int .i64 0], .int .i64 (n : Int), .int .i64 6]) (by exact rfl) rfl (by kernel_rfl) (by kernel_rfl) (by kernel_rfl) (fun _ _ _ h => h) (Or.inl ⟨by rfl, ?_⟩) (by assumption) ?_
      · intro wq hS
        go_simp
      try simp only [Act.put, List.setIfInBounds_toArray, List.set_cons_zero, List.set_cons_succ]
      refine takeD 11 97 (.agg #[.int .i64 0, .int .u64 0, .int .i64 0]) (by exact rfl) rfl (by kernel_rfl) (by kernel_rfl) (by kernel_rfl) (fun _ _ _ h => h) (Or.inl ⟨by rfl, ?_⟩) (by assumption) ?_
      · intro wq hS
        go_simp
      try simp only [Act.put, List.setIfInBounds_toArray, List.set_cons_zero, List.set_cons_succ]
      refine takeD 12 98 (.int .i64 (n : Int)) (by exact rfl) rfl (by kernel_rfl) (by kernel_rfl) (by kernel_rfl) (fun _ _ _ h => h) (Or.inl ⟨by rfl, ?_⟩) (by assumption) ?_
      · intro wq hS
        go_simp
      try simp only [Act.put, List.setIfInBounds_toArray, List.set_cons_zero, List.set_cons_succ]
      refine takeD 13 99 (.int .i64 6) (by exact rfl) rfl (by kernel_rfl) (by kernel_rfl) (by kernel_rfl) (fun _ _ _ h => h) (Or.inl ⟨by rfl, ?_⟩) (by assumption) ?_
      · intro wq hS
        go_simp
      try simp only [Act.put, List.setIfInBounds_toArray, List.set_cons_zero, List.set_cons_succ]
      refine takeD 14 13 (.int .i64 (n : Int)) (by exact rfl) rfl (by kernel_rfl) (by kernel_rfl) (by kernel_rfl) (fun _ _ _ h => h) (Or.inl ⟨by rfl, ?_⟩) (by assumption) ?_
      · intro wq hS
        go_simp
      try simp only [Act.put, List.setIfInBounds_toArray, List.set_cons_zero, List.set_cons_succ]
      refine takeD 15 14 (.int .i64 6) (by exact rfl) rfl (by kernel_rfl) (by kernel_rfl) (by kernel_rfl) (fun _ _ _ h => h) (Or.inl ⟨by rfl, ?_⟩) (by assumption) ?_
      · intro wq hS
        go_simp
      try simp only [Act.put, List.setIfInBounds_toArray, List.set_cons_zero, List.set_cons_succ]
      clear hHeld
      refine wpAnyH_done (by kernel_rfl) ?_ _
      refine NoPanic.normal ?_
      go_wp2_with fail
      go_ret
      exact ⟨rfl, BB_6.out⟩
  · go_wp2_with fail
    all_goals try (go_ret; exact ⟨rfl, BB_3.out.alloc BB_3.out.size _⟩)
    · have k1 : ¬ (48 ≤ wr ∧ wr ≤ 57) := by omega
      have k2 : wr ≠ 45 := by omega
      have k3 : wr ≠ 46 := by omega
      have k4 : n + 1 + more.size ≤ 64 := by omega
      have HPF := (show Hid _ from HFW.out k1 k2 k3 k4)
      refine wp_region_noPanic ?_
      refine wp_region_held_drew (S := fun _ => True) (by kernel_rfl) trivial (fun hHeld => ?_)
      refine takeD 0 87 (.string t) (by exact rfl) rfl (by kernel_rfl) (by kernel_rfl) (by kernel_rfl) (fun _ _ _ h => h) (Or.inl ⟨by rfl, ?_⟩) (by assumption) ?_
      · intro wq hS
        go_simp
      try simp only [Act.put, List.setIfInBounds_toArray, List.set_cons_zero, List.set_cons_succ]
      refine takeD 1 88 (.int .i64 (n : Int)) (by exact rfl) rfl (by kernel_rfl) (by kernel_rfl) (by kernel_rfl) (fun _ _ _ h => h) (Or.inl ⟨by rfl, ?_⟩) (by assumption) ?_
      · intro wq hS
        go_simp
      try simp only [Act.put, List.setIfInBounds_toArray, List.set_cons_zero, List.set_cons_succ]
      refine takeD 2 89 (.string (t.extract 0 n)) (by exact rfl) rfl (by kernel_rfl) (by kernel_rfl) (by kernel_rfl) (fun _ _ _ h => h) (Or.inl ⟨by rfl, ?_⟩) (by assumption) ?_
      · intro wq hS
        go_simp
      try simp only [Act.put, List.setIfInBounds_toArray, List.set_cons_zero, List.set_cons_succ]
      refine takeD 3 90 (.int .u8 (wr : Int)) (by exact rfl) rfl (by kernel_rfl) (by kernel_rfl) (by kernel_rfl) (fun _ _ _ h => h) (Or.inl ⟨by rfl, ?_⟩) (by assumption) ?_
      · intro wq hS
        go_simp
      try simp only [Act.put, List.setIfInBounds_toArray, List.set_cons_zero, List.set_cons_succ]
      refine takeD 7 94 (.string more) (by exact rfl) rfl (by kernel_rfl) (by kernel_rfl) (by kernel_rfl) (fun _ _ _ h => h) (Or.inl ⟨by rfl, ?_⟩) (by assumption) ?_
      · intro wq hS
        go_simp
      try simp only [Act.put, List.setIfInBounds_toArray, List.set_cons_zero, List.set_cons_succ]
      clear hHeld
      have BB_4 := (show Hid _ from (BB_3.out.alloc BB_3.out.size (.cells #[.int .i64 x0, .int .u64 x1, .int .i64 x2] 24)).drew)
      clear BB_3
      generalize (w3.alloc (.cells #[.int .i64 x0, .int .u64 x1, .int .i64 x2] 24)).drew = w4 at *
      refine wpAnyH_ready (rs := [4]) (by kernel_rfl) (by simp) ?_
      refine AllReadyH.cons (by exact rfl) (fun K hK => ?_) AllReadyH.nil
      go_simp
      refine hK.out _ _ trivial (fun hHeld => ?_)
      try simp only [Act.put, List.setIfInBounds_toArray, List.set_cons_zero, List.set_cons_succ]
      clear hK K hHeld
      have hcv := run_convert_bytes_arg (P := Try.prog) (w4.alloc (.cells #[.int .u8 (wr : Int)] 5)) 37 5 Try.underlying37 Try.underlying5 w4.heap.size 0 1 1 [(wr : Int)] rfl (by intro i hi; obtain rfl : i = 0 := (by omega); exact (va_new w4 [.int .u8 (wr : Int)] 5).cell 0 rfl) 9 Try.underlying9
      have BB_5 := (show Hid _ from BB_4.out.alloc BB_4.out.size (.cells #[.int .u8 (wr : Int)] 5))
      clear BB_4
      change wpAnyH _ _ _ _ _ _ _ _ (w4.alloc (.cells #[.int .u8 (wr : Int)] 5))
      generalize w4.alloc (.cells #[.int .u8 (wr : Int)] 5) = w5 at *
      
      refine wpAnyH_ready (rs := [5]) (by kernel_rfl) (by simp) ?_
      refine AllReadyH.cons (by exact rfl) (fun K hK => ?_) AllReadyH.nil
      go_simp
      refine hK.out _ _ trivial (fun hHeld => ?_)
      try simp only [Act.put, List.setIfInBounds_toArray, List.set_cons_zero, List.set_cons_succ]
      clear hK K hcv
      refine takeD 6 93 (.string (t.extract 0 n ++ strOfNums [(wr : Int)])) (by exact rfl) rfl (by kernel_rfl) (by kernel_rfl) (by kernel_rfl) (fun _ _ _ h => h) (Or.inl ⟨by rfl, ?_⟩) (by assumption) ?_
      · intro wq hS
        go_simp
        rw [strOfNums_size]
        show n + 1 ≤ _
        omega
      try simp only [Act.put, List.setIfInBounds_toArray, List.set_cons_zero, List.set_cons_succ]
      refine takeD 8 95 (.string (t.extract 0 n ++ strOfNums [(wr : Int)] ++ more)) (by exact rfl) rfl (by kernel_rfl) (by kernel_rfl) (by kernel_rfl) (fun _ _ _ h => h) (Or.inl ⟨by rfl, ?_⟩) (by assumption) ?_
      · intro wq hS
        go_simp
        rw [strOfNums_size]
        show n + 1 + more.size ≤ _
        omega
      try simp only [Act.put, List.setIfInBounds_toArray, List.set_cons_zero, List.set_cons_succ]
      clear hHeld
      refine wpAnyH_ready (rs := [9]) (by kernel_rfl) (by simp) ?_
      refine AllReadyH.cons (by exact rfl) (fun K hK => ?_) AllReadyH.nil
      go_simp
      refine (HPF.out _).mono ?_
      rintro e w6 ⟨rfl, b6⟩
      have BB_6 := (show Hid _ from BB_5.out.trans (b6.mono BB_5.out.size))
      clear b6 BB_5
      go_wp2_with fail
      refine hK.out _ _ trivial (fun hHeld => ?_)
      try simp only [Act.put, List.setIfInBounds_toArray, List.set_cons_zero, List.set_cons_succ]
      clear hK K
      refine takeD 10 86 (.tuple #[.agg #[.int .i64 0, .int .u64 0, .int .i64 0], .int .i64 (n : Int), .int .i64 6]) (by exact rfl) rfl (by kernel_rfl) (by kernel_rfl) (by kernel_rfl) (fun _ _ _ h => h) (Or.inl ⟨by rfl, ?_⟩) (by assumption) ?_
      · intro wq hS
        go_simp
      try simp only [Act.put, List.setIfInBounds_toArray, List.set_cons_zero, List.set_cons_succ]
      refine takeD 11 97 (.agg #[.int .i64 0, .int .u64 0, .int .i64 0]) (by exact rfl) rfl (by kernel_rfl) (by kernel_rfl) (by kernel_rfl) (fun _ _ _ h => h) (Or.inl ⟨by rfl, ?_⟩) (by assumption) ?_
      · intro wq hS
        go_simp
      try simp only [Act.put, List.setIfInBounds_toArray, List.set_cons_zero, List.set_cons_succ]
      refine takeD 12 98 (.int .i64 (n : Int)) (by exact rfl) rfl (by kernel_rfl) (by kernel_rfl) (by kernel_rfl) (fun _ _ _ h => h) (Or.inl ⟨by rfl, ?_⟩) (by assumption) ?_
      · intro wq hS
        go_simp
      try simp only [Act.put, List.setIfInBounds_toArray, List.set_cons_zero, List.set_cons_succ]
      refine takeD 13 99 (.int .i64 6) (by exact rfl) rfl (by kernel_rfl) (by kernel_rfl) (by kernel_rfl) (fun _ _ _ h => h) (Or.inl ⟨by rfl, ?_⟩) (by assumption) ?_
      · intro wq hS
        go_simp
      try simp only [Act.put, List.setIfInBounds_toArray, List.set_cons_zero, List.set_cons_succ]
      refine takeD 14 13 (.int .i64 (n : Int)) (by exact rfl) rfl (by kernel_rfl) (by kernel_rfl) (by kernel_rfl) (fun _ _ _ h => h) (Or.inl ⟨by rfl, ?_⟩) (by assumption) ?_
      · intro wq hS
        go_simp
      try simp only [Act.put, List.setIfInBounds_toArray, List.set_cons_zero, List.set_cons_succ]
      refine takeD 15 14 (.int .i64 6) (by exact rfl) rfl (by kernel_rfl) (by kernel_rfl) (by kernel_rfl) (fun _ _ _ h => h) (Or.inl ⟨by rfl, ?_⟩) (by assumption) ?_
      · intro wq hS
        go_simp
      try simp only [Act.put, List.setIfInBounds_toArray, List.set_cons_zero, List.set_cons_succ]
      clear hHeld
      refine wpAnyH_done (by kernel_rfl) ?_ _
      refine NoPanic.normal ?_
      go_wp2_with fail
      go_ret
      exact ⟨rfl, BB_6.out⟩
    · have k1 : ¬ (48 ≤ wr ∧ wr ≤ 57) := by omega
      have k2 : wr ≠ 45 := by omega
      have k3 : wr ≠ 46 := by omega
      have k4 : n + 1 + more.size ≤ 64 := by omega
      have HPF := (show Hid _ from HFW.out k1 k2 k3 k4)
      refine wp_region_noPanic ?_
      refine wp_region_held_drew (S := fun _ => True) (by kernel_rfl) trivial (fun hHeld => ?_)
      refine takeD 0 87 (.string t) (by exact rfl) rfl (by kernel_rfl) (by kernel_rfl) (by kernel_rfl) (fun _ _ _ h => h) (Or.inl ⟨by rfl, ?_⟩) (by assumption) ?_
      · intro wq hS
        go_simp
      try simp only [Act.put, List.setIfInBounds_toArray, List.set_cons_zero, List.set_cons_succ]
      refine takeD 1 88 (.int .i64 (n : Int)) (by exact rfl) rfl (by kernel_rfl) (by kernel_rfl) (by kernel_rfl) (fun _ _ _ h => h) (Or.inl ⟨by rfl, ?_⟩) (by assumption) ?_
      · intro wq hS
        go_simp
      try simp only [Act.put, List.setIfInBounds_toArray, List.set_cons_zero, List.set_cons_succ]
      refine takeD 2 89 (.string (t.extract 0 n)) (by exact rfl) rfl (by kernel_rfl) (by kernel_rfl) (by kernel_rfl) (fun _ _ _ h => h) (Or.inl ⟨by rfl, ?_⟩) (by assumption) ?_
      · intro wq hS
        go_simp
      try simp only [Act.put, List.setIfInBounds_toArray, List.set_cons_zero, List.set_cons_succ]
      refine takeD 3 90 (.int .u8 (wr : Int)) (by exact rfl) rfl (by kernel_rfl) (by kernel_rfl) (by kernel_rfl) (fun _ _ _ h => h) (Or.inl ⟨by rfl, ?_⟩) (by assumption) ?_
      · intro wq hS
        go_simp
      try simp only [Act.put, List.setIfInBounds_toArray, List.set_cons_zero, List.set_cons_succ]
      refine takeD 7 94 (.string more) (by exact rfl) rfl (by kernel_rfl) (by kernel_rfl) (by kernel_rfl) (fun _ _ _ h => h) (Or.inl ⟨by rfl, ?_⟩) (by assumption) ?_
      · intro wq hS
        go_simp
      try simp only [Act.put, List.setIfInBounds_toArray, List.set_cons_zero, List.set_cons_succ]
      clear hHeld
      have BB_4 := (show Hid _ from (BB_3.out.alloc BB_3.out.size (.cells #[.int .i64 x0, .int .u64 x1, .int .i64 x2] 24)).drew)
      clear BB_3
      generalize (w3.alloc (.cells #[.int .i64 x0, .int .u64 x1, .int .i64 x2] 24)).drew = w4 at *
      refine wpAnyH_ready (rs := [4]) (by kernel_rfl) (by simp) ?_
      refine AllReadyH.cons (by exact rfl) (fun K hK => ?_) AllReadyH.nil
      go_simp
      refine hK.out _ _ trivial (fun hHeld => ?_)
      try simp only [Act.put, List.setIfInBounds_toArray, List.set_cons_zero, List.set_cons_succ]
      clear hK K hHeld
      have hcv := run_convert_bytes_arg (P := Try.prog) (w4.alloc (.cells #[.int .u8 (wr : Int)] 5)) 37 5 Try.underlying37 Try.underlying5 w4.heap.size 0 1 1 [(wr : Int)] rfl (by intro i hi; obtain rfl : i = 0 := (by omega); exact (va_new w4 [.int .u8 (wr : Int)] 5).cell 0 rfl) 9 Try.underlying9
      have BB_5 := (show Hid _ from BB_4.out.alloc BB_4.out.size (.cells #[.int .u8 (wr : Int)] 5))
      clear BB_4
      change wpAnyH _ _ _ _ _ _ _ _ (w4.alloc (.cells #[.int .u8 (wr : Int)] 5))
      generalize w4.alloc (.cells #[.int .u8 (wr : Int)] 5) = w5 at *
      
      refine wpAnyH_ready (rs := [5]) (by kernel_rfl) (by simp) ?_
      refine AllReadyH.cons (by exact rfl) (fun K hK => ?_) AllReadyH.nil
      go_simp
      refine hK.out _ _ trivial (fun hHeld => ?_)
      try simp only [Act.put, List.setIfInBounds_toArray, List.set_cons_zero, List.set_cons_succ]
      clear hK K hcv
      refine takeD 6 93 (.string (t.extract 0 n ++ strOfNums [(wr : Int)])) (by exact rfl) rfl (by kernel_rfl) (by kernel_rfl) (by kernel_rfl) (fun _ _ _ h => h) (Or.inl ⟨by rfl, ?_⟩) (by assumption) ?_
      · intro wq hS
        go_simp
        rw [strOfNums_size]
        show n + 1 ≤ _
        omega
      try simp only [Act.put, List.setIfInBounds_toArray, List.set_cons_zero, List.set_cons_succ]
      refine takeD 8 95 (.string (t.extract 0 n ++ strOfNums [(wr : Int)] ++ more)) (by exact rfl) rfl (by kernel_rfl) (by kernel_rfl) (by kernel_rfl) (fun _ _ _ h => h) (Or.inl ⟨by rfl, ?_⟩) (by assumption) ?_
      · intro wq hS
        go_simp
        rw [strOfNums_size]
        show n + 1 + more.size ≤ _
        omega
      try simp only [Act.put, List.setIfInBounds_toArray, List.set_cons_zero, List.set_cons_succ]
      clear hHeld
      refine wpAnyH_ready (rs := [9]) (by kernel_rfl) (by simp) ?_
      refine AllReadyH.cons (by exact rfl) (fun K hK => ?_) AllReadyH.nil
      go_simp
      refine (HPF.out _).mono ?_
      rintro e w6 ⟨rfl, b6⟩
      have BB_6 := (show Hid _ from BB_5.out.trans (b6.mono BB_5.out.size))
      clear b6 BB_5
      go_wp2_with fail
      refine hK.out _ _ trivial (fun hHeld => ?_)
      try simp only [Act.put, List.setIfInBounds_toArray, List.set_cons_zero, List.set_cons_succ]
      clear hK K
      refine takeD 10 86 (.tuple #[.agg #[.int .i64 0, .int .u64 0, .int .i64 0], .int .i64 (n : Int), .int .i64 6]) (by exact rfl) rfl (by kernel_rfl) (by kernel_rfl) (by kernel_rfl) (fun _ _ _ h => h) (Or.inl ⟨by rfl, ?_⟩) (by assumption) ?_
      · intro wq hS
        go_simp
      try simp only [Act.put, List.setIfInBounds_toArray, List.set_cons_zero, List.set_cons_succ]
      refine takeD 11 97 (.agg #[.int .i64 0, .int .u64 0, .int .i64 0]) (by exact rfl) rfl (by kernel_rfl) (by kernel_rfl) (by kernel_rfl) (fun _ _ _ h => h) (Or.inl ⟨by rfl, ?_⟩) (by assumption) ?_
      · intro wq hS
        go_simp
      try simp only [Act.put, List.setIfInBounds_toArray, List.set_cons_zero, List.set_cons_succ]
      refine takeD 12 98 (.int .i64 (n : Int)) (by exact rfl) rfl (by kernel_rfl) (by kernel_rfl) (by kernel_rfl) (fun _ _ _ h => h) (Or.inl ⟨by rfl, ?_⟩) (by assumption) ?_
      · intro wq hS
        go_simp
      try simp only [Act.put, List.setIfInBounds_toArray, List.set_cons_zero, List.set_cons_succ]
      refine takeD 13 99 (.int .i64 6) (by exact rfl) rfl (by kernel_rfl) (by kernel_rfl) (by kernel_rfl) (fun _ _ _ h => h) (Or.inl ⟨by rfl, ?_⟩) (by assumption) ?_
      · intro wq hS
        go_simp
      try simp only [Act.put, List.setIfInBounds_toArray, List.set_cons_zero, List.set_cons_succ]
      refine takeD 14 13 (.int .i64 (n : Int)) (by exact rfl) rfl (by kernel_rfl) (by kernel_rfl) (by kernel_rfl) (fun _ _ _ h => h) (Or.inl ⟨by rfl, ?_⟩) (by assumption) ?_
      · intro wq hS
        go_simp
      try simp only [Act.put, List.setIfInBounds_toArray, List.set_cons_zero, List.set_cons_succ]
      refine takeD 15 14 (.int .i64 6) (by exact rfl) rfl (by kernel_rfl) (by kernel_rfl) (by kernel_rfl) (fun _ _ _ h => h) (Or.inl ⟨by rfl, ?_⟩) (by assumption) ?_
      · intro wq hS
        go_simp
      try simp only [Act.put, List.setIfInBounds_toArray, List.set_cons_zero, List.set_cons_succ]
      clear hHeld
      refine wpAnyH_done (by kernel_rfl) ?_ _
      refine NoPanic.normal ?_
      go_wp2_with fail
      go_ret
      exact ⟨rfl, BB_6.out⟩
  · have g0 : ((0 : Int) != n) = true := by simp; omega
    have g1 : ((n : Int) == 0) = false := by simp; omega
    have g2 : ((bt t 0 : Int) != 45) = false := by rw [hb0]; rfl
    clear hn0 hb0
    go_wp2_with fail
    all_goals try (go_ret; exact ⟨rfl, BB_3.out.alloc BB_3.out.size _⟩)
    · have k1 : ¬ (48 ≤ wr ∧ wr ≤ 57) := by omega
      have k2 : wr ≠ 45 := by omega
      have k3 : wr ≠ 46 := by omega
      have k4 : n + 1 + more.size ≤ 64 := by omega
      have HPF := (show Hid _ from HFW.out k1 k2 k3 k4)
      refine wp_region_noPanic ?_
      refine wp_region_held_drew (S := fun _ => True) (by kernel_rfl) trivial (fun hHeld => ?_)
      refine takeD 0 87 (.string t) (by exact rfl) rfl (by kernel_rfl) (by kernel_rfl) (by kernel_rfl) (fun _ _ _ h => h) (Or.inl ⟨by rfl, ?_⟩) (by assumption) ?_
      · intro wq hS
        go_simp
      try simp only [Act.put, List.setIfInBounds_toArray, List.set_cons_zero, List.set_cons_succ]
      refine takeD 1 88 (.int .i64 (n : Int)) (by exact rfl) rfl (by kernel_rfl) (by kernel_rfl) (by kernel_rfl) (fun _ _ _ h => h) (Or.inl ⟨by rfl, ?_⟩) (by assumption) ?_
      · intro wq hS
        go_simp
      try simp only [Act.put, List.setIfInBounds_toArray, List.set_cons_zero, List.set_cons_succ]
      refine takeD 2 89 (.string (t.extract 0 n)) (by exact rfl) rfl (by kernel_rfl) (by kernel_rfl) (by kernel_rfl) (fun _ _ _ h => h) (Or.inl ⟨by rfl, ?_⟩) (by assumption) ?_
      · intro wq hS
        go_simp
      try simp only [Act.put, List.setIfInBounds_toArray, List.set_cons_zero, List.set_cons_succ]
      refine takeD 3 90 (.int .u8 (wr : Int)) (by exact rfl) rfl (by kernel_rfl) (by kernel_rfl) (by kernel_rfl) (fun _ _ _ h => h) (Or.inl ⟨by rfl, ?_⟩) (by assumption) ?_
      · intro wq hS
        go_simp
      try simp only [Act.put, List.setIfInBounds_toArray, List.set_cons_zero, List.set_cons_succ]
      refine takeD 7 94 (.string more) (by exact rfl) rfl (by kernel_rfl) (by kernel_rfl) (by kernel_rfl) (fun _ _ _ h => h) (Or.inl ⟨by rfl, ?_⟩) (by assumption) ?_
      · intro wq hS
        go_simp
      try simp only [Act.put, List.setIfInBounds_toArray, List.set_cons_zero, List.set_cons_succ]
      clear hHeld
      have BB_4 := (show Hid _ from (BB_3.out.alloc BB_3.out.size (.cells #[.int .i64 x0, .int .u64 x1, .int .i64 x2] 24)).drew)
      clear BB_3
      generalize (w3.alloc (.cells #[.int .i64 x0, .int .u64 x1, .int .i64 x2] 24)).drew = w4 at *
      refine wpAnyH_ready (rs := [4]) (by kernel_rfl) (by simp) ?_
      refine AllReadyH.cons (by exact rfl) (fun K hK => ?_) AllReadyH.nil
      go_simp
      refine hK.out _ _ trivial (fun hHeld => ?_)
      try simp only [Act.put, List.setIfInBounds_toArray, List.set_cons_zero, List.set_cons_succ]
      clear hK K hHeld
      have hcv := run_convert_bytes_arg (P := Try.prog) (w4.alloc (.cells #[.int .u8 (wr : Int)] 5)) 37 5 Try.underlying37 Try.underlying5 w4.heap.size 0 1 1 [(wr : Int)] rfl (by intro i hi; obtain rfl : i = 0 := (by omega); exact (va_new w4 [.int .u8 (wr : Int)] 5).cell 0 rfl) 9 Try.underlying9
      have BB_5 := (show Hid _ from BB_4.out.alloc BB_4.out.size (.cells #[.int .u8 (wr : Int)] 5))
      clear BB_4
      change wpAnyH _ _ _ _ _ _ _ _ (w4.alloc (.cells #[.int .u8 (wr : Int)] 5))
      generalize w4.alloc (.cells #[.int .u8 (wr : Int)] 5) = w5 at *
      
      refine wpAnyH_ready (rs := [5]) (by kernel_rfl) (by simp) ?_
      refine AllReadyH.cons (by exact rfl) (fun K hK => ?_) AllReadyH.nil
      go_simp
      refine hK.out _ _ trivial (fun hHeld => ?_)
      try simp only [Act.put, List.setIfInBounds_toArray, List.set_cons_zero, List.set_cons_succ]
      clear hK K hcv
      refine takeD 6 93 (.string (t.extract 0 n ++ strOfNums [(wr : Int)])) (by exact rfl) rfl (by kernel_rfl) (by kernel_rfl) (by kernel_rfl) (fun _ _ _ h => h) (Or.inl ⟨by rfl, ?_⟩) (by assumption) ?_
      · intro wq hS
        go_simp
        rw [strOfNums_size]
        show n + 1 ≤ _
        omega
      try simp only [Act.put, List.setIfInBounds_toArray, List.set_cons_zero, List.set_cons_succ]
      refine takeD 8 95 (.string (t.extract 0 n ++ strOfNums [(wr : Int)] ++ more)) (by exact rfl) rfl (by kernel_rfl) (by kernel_rfl) (by kernel_rfl) (fun _ _ _ h => h) (Or.inl ⟨by rfl, ?_⟩) (by assumption) ?_
      · intro wq hS
        go_simp
        rw [strOfNums_size]
        show n + 1 + more.size ≤ _
        omega
      try simp only [Act.put, List.setIfInBounds_toArray, List.set_cons_zero, List.set_cons_succ]
      clear hHeld
      refine wpAnyH_ready (rs := [9]) (by kernel_rfl) (by simp) ?_
      refine AllReadyH.cons (by exact rfl) (fun K hK => ?_) AllReadyH.nil
      go_simp
      refine (HPF.out _).mono ?_
      rintro e w6 ⟨rfl, b6⟩
      have BB_6 := (show Hid _ from BB_5.out.trans (b6.mono BB_5.out.size))
      clear b6 BB_5
      go_wp2_with fail
      refine hK.out _ _ trivial (fun hHeld => ?_)
      try simp only [Act.put, List.setIfInBounds_toArray, List.set_cons_zero, List.set_cons_succ]
      clear hK K
      refine takeD 10 86 (.tuple #[.agg #[.int .i64 0, .int .u64 0, .int .i64 0], .int .i64 (n : Int), .int .i64 6]) (by exact rfl) rfl (by kernel_rfl) (by kernel_rfl) (by kernel_rfl) (fun _ _ _ h => h) (Or.inl ⟨by rfl, ?_⟩) (by assumption) ?_
      · intro wq hS
        go_simp
      try simp only [Act.put, List.setIfInBounds_toArray, List.set_cons_zero, List.set_cons_succ]
      refine takeD 11 97 (.agg #[.int .i64 0, .int .u64 0, .int .i64 0]) (by exact rfl) rfl (by kernel_rfl) (by kernel_rfl) (by kernel_rfl) (fun _ _ _ h => h) (Or.inl ⟨by rfl, ?_⟩) (by assumption) ?_
      · intro wq hS
        go_simp
      try simp only [Act.put, List.setIfInBounds_toArray, List.set_cons_zero, List.set_cons_succ]
      refine takeD 12 98 (.int .i64 (n : Int)) (by exact rfl) rfl (by kernel_rfl) (by kernel_rfl) (by kernel_rfl) (fun _ _ _ h => h) (Or.inl ⟨by rfl, ?_⟩) (by assumption) ?_
      · intro wq hS
        go_simp
      try simp only [Act.put, List.setIfInBounds_toArray, List.set_cons_zero, List.set_cons_succ]
      refine takeD 13 99 (.int .i64 6) (by exact rfl) rfl (by kernel_rfl) (by kernel_rfl) (by kernel_rfl) (fun _ _ _ h => h) (Or.inl ⟨by rfl, ?_⟩) (by assumption) ?_
      · intro wq hS
        go_simp
      try simp only [Act.put, List.setIfInBounds_toArray, List.set_cons_zero, List.set_cons_succ]
      refine takeD 14 13 (.int .i64 (n : Int)) (by exact rfl) rfl (by kernel_rfl) (by kernel_rfl) (by kernel_rfl) (fun _ _ _ h => h) (Or.inl ⟨by rfl, ?_⟩) (by assumption) ?_
      · intro wq hS
        go_simp
      try simp only [Act.put, List.setIfInBounds_toArray, List.set_cons_zero, List.set_cons_succ]
      refine takeD 15 14 (.int .i64 6) (by exact rfl) rfl (by kernel_rfl) (by kernel_rfl) (by kernel_rfl) (fun _ _ _ h => h) (Or.inl ⟨by rfl, ?_⟩) (by assumption) ?_
      · intro wq hS
        go_simp
      try simp only [Act.put, List.setIfInBounds_toArray, List.set_cons_zero, List.set_cons_succ]
      clear hHeld
      refine wpAnyH_done (by kernel_rfl) ?_ _
      refine NoPanic.normal ?_
      go_wp2_with fail
      go_ret
      exact ⟨rfl, BB_6.out⟩
    · have k1 : ¬ (48 ≤ wr ∧ wr ≤ 57) := by omega
      have k2 : wr ≠ 45 := by omega
      have k3 : wr ≠ 46 := by omega
      have k4 : n + 1 + more.size ≤ 64 := by omega
      have HPF := (show Hid _ from HFW.out k1 k2 k3 k4)
      refine wp_region_noPanic ?_
      refine wp_region_held_drew (S := fun _ => True) (by kernel_rfl) trivial (fun hHeld => ?_)
      refine takeD 0 87 (.string t) (by exact rfl) rfl (by kernel_rfl) (by kernel_rfl) (by kernel_rfl) (fun _ _ _ h => h) (Or.inl ⟨by rfl, ?_⟩) (by assumption) ?_
      · intro wq hS
        go_simp
      try simp only [Act.put, List.setIfInBounds_toArray, List.set_cons_zero, List.set_cons_succ]
      refine takeD 1 88 (.int .i64 (n : Int)) (by exact rfl) rfl (by kernel_rfl) (by kernel_rfl) (by kernel_rfl) (fun _ _ _ h => h) (Or.inl ⟨by rfl, ?_⟩) (by assumption) ?_
      · intro wq hS
        go_simp
      try simp only [Act.put, List.setIfInBounds_toArray, List.set_cons_zero, List.set_cons_succ]
      refine takeD 2 89 (.string (t.extract 0 n)) (by exact rfl) rfl (by kernel_rfl) (by kernel_rfl) (by kernel_rfl) (fun _ _ _ h => h) (Or.inl ⟨by rfl, ?_⟩) (by assumption) ?_
      · intro wq hS
        go_simp
      try simp only [Act.put, List.setIfInBounds_toArray, List.set_cons_zero, List.set_cons_succ]
      refine takeD 3 90 (.int .u8 (wr : Int)) (by exact rfl) rfl (by kernel_rfl) (by kernel_rfl) (by kernel_rfl) (fun _ _ _ h => h) (Or.inl ⟨by rfl, ?_⟩) (by assumption) ?_
      · intro wq hS
        go_simp
      try simp only [Act.put, List.setIfInBounds_toArray, List.set_cons_zero, List.set_cons_succ]
      refine takeD 7 94 (.string more) (by exact rfl) rfl (by kernel_rfl) (by kernel_rfl) (by kernel_rfl) (fun _ _ _ h => h) (Or.inl ⟨by rfl, ?_⟩) (by assumption) ?_
      · intro wq hS
        go_simp
      try simp only [Act.put, List.setIfInBounds_toArray, List.set_cons_zero, List.set_cons_succ]
      clear hHeld
      have BB_4 := (show Hid _ from (BB_3.out.alloc BB_3.out.size (.cells #[.int .i64 x0, .int .u64 x1, .int .i64 x2] 24)).drew)
      clear BB_3
      generalize (w3.alloc (.cells #[.int .i64 x0, .int .u64 x1, .int .i64 x2] 24)).drew = w4 at *
      refine wpAnyH_ready (rs := [4]) (by kernel_rfl) (by simp) ?_
      refine AllReadyH.cons (by exact rfl) (fun K hK => ?_) AllReadyH.nil
      go_simp
      refine hK.out _ _ trivial (fun hHeld => ?_)
      try simp only [Act.put, List.setIfInBounds_toArray, List.set_cons_zero, List.set_cons_succ]
      clear hK K hHeld
      have hcv := run_convert_bytes_arg (P := Try.prog) (w4.alloc (.cells #[.int .u8 (wr : Int)] 5)) 37 5 Try.underlying37 Try.underlying5 w4.heap.size 0 1 1 [(wr : Int)] rfl (by intro i hi; obtain rfl : i = 0 := (by omega); exact (va_new w4 [.int .u8 (wr : Int)] 5).cell 0 rfl) 9 Try.underlying9
      have BB_5 := (show Hid _ from BB_4.out.alloc BB_4.out.size (.cells #[.int .u8 (wr : Int)] 5))
      clear BB_4
      change wpAnyH _ _ _ _ _ _ _ _ (w4.alloc (.cells #[.int .u8 (wr : Int)] 5))
      generalize w4.alloc (.cells #[.int .u8 (wr : Int)] 5) = w5 at *
      
      refine wpAnyH_ready (rs := [5]) (by kernel_rfl) (by simp) ?_
      refine AllReadyH.cons (by exact rfl) (fun K hK => ?_) AllReadyH.nil
      go_simp
      refine hK.out _ _ trivial (fun hHeld => ?_)
      try simp only [Act.put, List.setIfInBounds_toArray, List.set_cons_zero, List.set_cons_succ]
      clear hK K hcv
      refine takeD 6 93 (.string (t.extract 0 n ++ strOfNums [(wr : Int)])) (by exact rfl) rfl (by kernel_rfl) (by kernel_rfl) (by kernel_rfl) (fun _ _ _ h => h) (Or.inl ⟨by rfl, ?_⟩) (by assumption) ?_
      · intro wq hS
        go_simp
        rw [strOfNums_size]
        show n + 1 ≤ _
        omega
      try simp only [Act.put, List.setIfInBounds_toArray, List.set_cons_zero, List.set_cons_succ]
      refine takeD 8 95 (.string (t.extract 0 n ++ strOfNums [(wr : Int)] ++ more)) (by exact rfl) rfl (by kernel_rfl) (by kernel_rfl) (by kernel_rfl) (fun _ _ _ h => h) (Or.inl ⟨by rfl, ?_⟩) (by assumption) ?_
      · intro wq hS
        go_simp
        rw [strOfNums_size]
        show n + 1 + more.size ≤ _
        omega
      try simp only [Act.put, List.setIfInBounds_toArray, List.set_cons_zero, List.set_cons_succ]
      clear hHeld
      refine wpAnyH_ready (rs := [9]) (by kernel_rfl) (by simp) ?_
      refine AllReadyH.cons (by exact rfl) (fun K hK => ?_) AllReadyH.nil
      go_simp
      refine (HPF.out _).mono ?_
      rintro e w6 ⟨rfl, b6⟩
      have BB_6 := (show Hid _ from BB_5.out.trans (b6.mono BB_5.out.size))
      clear b6 BB_5
      go_wp2_with fail
      refine hK.out _ _ trivial (fun hHeld => ?_)
      try simp only [Act.put, List.setIfInBounds_toArray, List.set_cons_zero, List.set_cons_succ]
      clear hK K
      refine takeD 10 86 (.tuple #[.agg #[.int .i64 0, .int .u64 0, .int .i64 0], .int .i64 (n : Int), .int .i64 6]) (by exact rfl) rfl (by kernel_rfl) (by kernel_rfl) (by kernel_rfl) (fun _ _ _ h => h) (Or.inl ⟨by rfl, ?_⟩) (by assumption) ?_
      · intro wq hS
        go_simp
      try simp only [Act.put, List.setIfInBounds_toArray, List.set_cons_zero, List.set_cons_succ]
      refine takeD 11 97 (.agg #[.int .i64 0, .int .u64 0, .int .i64 0]) (by exact rfl) rfl (by kernel_rfl) (by kernel_rfl) (by kernel_rfl) (fun _ _ _ h => h) (Or.inl ⟨by rfl, ?_⟩) (by assumption) ?_
      · intro wq hS
        go_simp
      try simp only [Act.put, List.setIfInBounds_toArray, List.set_cons_zero, List.set_cons_succ]
      refine takeD 12 98 (.int .i64 (n : Int)) (by exact rfl) rfl (by kernel_rfl) (by kernel_rfl) (by kernel_rfl) (fun _ _ _ h => h) (Or.inl ⟨by rfl, ?_⟩) (by assumption) ?_
      · intro wq hS
        go_simp
      try simp only [Act.put, List.setIfInBounds_toArray, List.set_cons_zero, List.set_cons_succ]
      refine takeD 13 99 (.int .i64 6) (by exact rfl) rfl (by kernel_rfl) (by kernel_rfl) (by kernel_rfl) (fun _ _ _ h => h) (Or.inl ⟨by rfl, ?_⟩) (by assumption) ?_
      · intro wq hS
        go_simp
      try simp only [Act.put, List.setIfInBounds_toArray, List.set_cons_zero, List.set_cons_succ]
      refine takeD 14 13 (.int .i64 (n : Int)) (by exact rfl) rfl (by kernel_rfl) (by kernel_rfl) (by kernel_rfl) (fun _ _ _ h => h) (Or.inl ⟨by rfl, ?_⟩) (by assumption) ?_
      · intro wq hS
        go_simp
      try simp only [Act.put, List.setIfInBounds_toArray, List.set_cons_zero, List.set_cons_succ]
      refine takeD 15 14 (.int .i64 6) (by exact rfl) rfl (by kernel_rfl) (by kernel_rfl) (by kernel_rfl) (fun _ _ _ h => h) (Or.inl ⟨by rfl, ?_⟩) (by assumption) ?_
      · intro wq hS
        go_simp
      try simp only [Act.put, List.setIfInBounds_toArray, List.set_cons_zero, List.set_cons_succ]
      clear hHeld
      refine wpAnyH_done (by kernel_rfl) ?_ _
      refine NoPanic.normal ?_
      go_wp2_with fail
      go_ret
      exact ⟨rfl, BB_6.out⟩
end Go.Proofs.Ytgcmbiahakampaa
