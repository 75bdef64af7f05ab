/- money's sort: insertion (slices.insertionSortCmpFunc). -/
import Derived.Test.YtbgglghapjfdeaaDoorSsc
namespace Go.Proofs.YtbgglghapjfdeaaDoor
open Go.RowKit
set_option linter.unusedVariables false

theorem Ins.bd {R f c : Nat → Nat} {a i j n : Nat} (h : Ins R f c a i j) (hi : i < n) (B : ∀ x, x < n → f x < n) (x : Nat) (hx : x < n) : c x < n :=
  (h.pm.wide (Nat.zero_le _) (by omega)).all (P := fun v => v < n) (fun x _ h => B x h) x (Nat.zero_le _) hx
set_option maxHeartbeats 8000000 in
set_option maxRecDepth 100000 in
theorem ins_ok (q n bx a b : Nat) (R f : Nat → Nat) (C : World → Prop) (KC : Cmpr q n bx R C) (w : World) (V : VA w q (row f n) 3) (hC : C w) (h1 : a ≤ b) (h2 : b ≤ n) (h3 : n ≤ 1000000) (B : ∀ x, x < n → f x < n) (I : ∀ x y, a ≤ x → x < y → y < b → f x < f y) :
    Calls Tryd.prog 55 #[.slice (some ⟨q, 0, none⟩) n n, .int .i64 (a : Int), .int .i64 (b : Int), .func (.func 44) #[] #[.pointer (some ⟨bx, 0, none⟩)]] w fun e w' => e = .returned (.tuple #[]) ∧ ∃ g, VA w' q (row g n) 3 ∧ Pm f g a b ∧ Srt R g a b ∧ Qx q w w' := by
  have HV0 := (show Hid _ from V)
  have HKC := (show Hid _ from KC)
  have HC := (show Hid _ from hC)
  have HBF := (show Hid _ from B)
  have HI := (show Hid _ from I)
  clear V KC hC B I
  go_enter Tryd.func55, Tryd.ntmps55
  go_wp2_with fail
  go_loopw [8] (fun s8 wr => ∃ (i : Nat) (g : Nat → Nat), a + 1 ≤ i ∧ (i ≤ b ∨ i = a + 1) ∧ s8 = .int .i64 (i : Int) ∧ Hid (Pm f g a (min i b)) ∧ Hid (Srt R g a (min i b)) ∧ Hid (VA wr q (row g n) 3) ∧ Hid (Qx q w wr)) (fun s8 _ => b + 1 - (intOf s8).toNat)
  case atStart => exact ⟨a + 1, f, by omega, by omega, by go_num, Pm.refl _ _ _, Srt.none (by omega), HV0.out, Qx.refl _ _⟩
  case round =>
    obtain ⟨i, g, hi1, hi2, rfl, HP, HS, HV, HU⟩ := hrel
    clear HV0
    by_cases hib : (b : Int) ≤ (i : Int)
    · go_wp2_with fail
      refine bodyPost_end (v := .tuple #[]) (by simp [results, Tryd.results55, go_sem]) rfl ⟨rfl, g, HV.out, ?_, ?_, HU.out⟩
      · have := HP.out; rwa [show min i b = b by omega] at this
      · have := HS.out; rwa [show min i b = b by omega] at this
    have hib' : i < b := by omega
    have HIN : Hid (Ins R f g a i i) := by
      have hP := HP.out; have hS := HS.out
      rw [show min i b = i by omega] at hP hS
      exact Ins.start (by omega) hP hS (fun x hx1 hx2 => HI.out x i hx1 hx2 hib')
    clear HP HS
    go_wp2_with fail
    go_loopw [9] (fun s9 wr => ∃ (j : Nat) (c : Nat → Nat), a ≤ j ∧ j ≤ i ∧ s9 = .int .i64 (j : Int) ∧ Hid (Ins R f c a i j) ∧ Hid (VA wr q (row c n) 3) ∧ Hid (Qx q w wr)) (fun s9 _ => (intOf s9).toNat)
    case atStart => exact ⟨i, g, by omega, by omega, rfl, HIN.out, HV.out, HU.out⟩
    case round =>
      obtain ⟨j, c, hj1, hj2, rfl, HIc, HV', HU'⟩ := hrel
      clear HIN HV HU
      have HV := HV'
      have HU := HU'
      clear HV' HU'
      have HJN : Hid (j < n) := by show j < n; omega
      by_cases hja : j = a
      · subst hja
        go_upto_region 4 with fail
        refine wp_region_noPanic ?_
        refine wp_region_held_drew (S := fun w' => VA w' q (row c n) 3 ∧ Below wr.heap.size wr w') (by kernel_rfl) ⟨HV.out.drew, (Below.refl _ _).drew⟩ (fun hHeld => ?_)
        refine takeD 0 18 (.int .i64 (j : Int)) (by exact rfl) rfl (by kernel_rfl) (by kernel_rfl) (by kernel_rfl) (fun _ _ _ h => h) (Or.inl ⟨by rfl, ?_⟩) (by assumption) ?_
        · intro wq hS
          go_simp
        try simp only [Act.put, List.setIfInBounds_toArray, List.set_cons_zero, List.set_cons_succ]
        refine takeD 1 19 (.int .i64 (j : Int)) (by exact rfl) rfl (by kernel_rfl) (by kernel_rfl) (by kernel_rfl) (fun _ _ _ h => h) (Or.inl ⟨by rfl, ?_⟩) (by assumption) ?_
        · intro wq hS
          go_simp
        try simp only [Act.put, List.setIfInBounds_toArray, List.set_cons_zero, List.set_cons_succ]
        refine takeD 2 20 (.bool false) (by exact rfl) rfl (by kernel_rfl) (by kernel_rfl) (by kernel_rfl) (fun _ _ _ h => h) (Or.inl ⟨by rfl, ?_⟩) (by assumption) ?_
        · intro wq hS
          go_simp
        try simp only [Act.put, List.setIfInBounds_toArray, List.set_cons_zero, List.set_cons_succ]
        refine takeD 3 21 (.bool false) (by exact rfl) rfl (by kernel_rfl) (by kernel_rfl) (by kernel_rfl) (fun _ _ _ h => h) (Or.inl ⟨by rfl, ?_⟩) (by assumption) ?_
        · intro wq hS
          go_simp
        try simp only [Act.put, List.setIfInBounds_toArray, List.set_cons_zero, List.set_cons_succ]
        refine takeD 4 22 undef (by exact rfl) rfl (by kernel_rfl) (by kernel_rfl) (by kernel_rfl) (fun _ _ _ h => h) (Or.inr ⟨by rfl, rfl⟩) (by assumption) ?_
        try simp only [Act.put, List.setIfInBounds_toArray, List.set_cons_zero, List.set_cons_succ]
        refine takeD 5 23 undef (by exact rfl) rfl (by kernel_rfl) (by kernel_rfl) (by kernel_rfl) (fun _ _ _ h => h) (Or.inr ⟨by rfl, rfl⟩) (by assumption) ?_
        try simp only [Act.put, List.setIfInBounds_toArray, List.set_cons_zero, List.set_cons_succ]
        refine takeD 6 24 undef (by exact rfl) rfl (by kernel_rfl) (by kernel_rfl) (by kernel_rfl) (fun _ _ _ h => h) (Or.inr ⟨by rfl, rfl⟩) (by assumption) ?_
        try simp only [Act.put, List.setIfInBounds_toArray, List.set_cons_zero, List.set_cons_succ]
        refine takeD 7 25 undef (by exact rfl) rfl (by kernel_rfl) (by kernel_rfl) (by kernel_rfl) (fun _ _ _ h => h) (Or.inr ⟨by rfl, rfl⟩) (by assumption) ?_
        try simp only [Act.put, List.setIfInBounds_toArray, List.set_cons_zero, List.set_cons_succ]
        refine takeD 8 26 undef (by exact rfl) rfl (by kernel_rfl) (by kernel_rfl) (by kernel_rfl) (fun _ _ _ h => h) (Or.inr ⟨by rfl, rfl⟩) (by assumption) ?_
        try simp only [Act.put, List.setIfInBounds_toArray, List.set_cons_zero, List.set_cons_succ]
        refine takeD 9 27 undef (by exact rfl) rfl (by kernel_rfl) (by kernel_rfl) (by kernel_rfl) (fun _ _ _ h => h) (Or.inr ⟨by rfl, rfl⟩) (by assumption) ?_
        try simp only [Act.put, List.setIfInBounds_toArray, List.set_cons_zero, List.set_cons_succ]
        refine takeD 10 28 undef (by exact rfl) rfl (by kernel_rfl) (by kernel_rfl) (by kernel_rfl) (fun _ _ _ h => h) (Or.inr ⟨by rfl, rfl⟩) (by assumption) ?_
        try simp only [Act.put, List.setIfInBounds_toArray, List.set_cons_zero, List.set_cons_succ]
        refine takeD 11 29 undef (by exact rfl) rfl (by kernel_rfl) (by kernel_rfl) (by kernel_rfl) (fun _ _ _ h => h) (Or.inr ⟨by rfl, rfl⟩) (by assumption) ?_
        try simp only [Act.put, List.setIfInBounds_toArray, List.set_cons_zero, List.set_cons_succ]
        refine takeD 12 30 undef (by exact rfl) rfl (by kernel_rfl) (by kernel_rfl) (by kernel_rfl) (fun _ _ _ h => h) (Or.inr ⟨by rfl, rfl⟩) (by assumption) ?_
        try simp only [Act.put, List.setIfInBounds_toArray, List.set_cons_zero, List.set_cons_succ]
        refine takeD 13 31 undef (by exact rfl) rfl (by kernel_rfl) (by kernel_rfl) (by kernel_rfl) (fun _ _ _ h => h) (Or.inr ⟨by rfl, rfl⟩) (by assumption) ?_
        try simp only [Act.put, List.setIfInBounds_toArray, List.set_cons_zero, List.set_cons_succ]
        refine takeD 14 32 undef (by exact rfl) rfl (by kernel_rfl) (by kernel_rfl) (by kernel_rfl) (fun _ _ _ h => h) (Or.inr ⟨by rfl, rfl⟩) (by assumption) ?_
        try simp only [Act.put, List.setIfInBounds_toArray, List.set_cons_zero, List.set_cons_succ]
        refine takeD 15 33 undef (by exact rfl) rfl (by kernel_rfl) (by kernel_rfl) (by kernel_rfl) (fun _ _ _ h => h) (Or.inr ⟨by rfl, rfl⟩) (by assumption) ?_
        try simp only [Act.put, List.setIfInBounds_toArray, List.set_cons_zero, List.set_cons_succ]
        refine takeD 16 34 (.bool false) (by exact rfl) rfl (by kernel_rfl) (by kernel_rfl) (by kernel_rfl) (fun _ _ _ h => h) (Or.inl ⟨by rfl, ?_⟩) (by assumption) ?_
        · intro wq hS
          go_simp
        try simp only [Act.put, List.setIfInBounds_toArray, List.set_cons_zero, List.set_cons_succ]
        refine wpAnyH_done (by kernel_rfl) ?_ _
        refine NoPanic.normal ?_
        have HV2 := (show Hid _ from hHeld.1)
        have HU2 := (show Hid _ from HU.out.trans (Qx.of_bel hHeld.2))
        clear hHeld
        go_wp2_with fail
        refine ⟨⟨i + 1, c, by omega, by omega, by go_num, ?_, ?_, HV2.out, HU2.out⟩, by simp [intOf]; omega⟩
        · show Pm _ _ _ _; rw [show min (i + 1) b = i + 1 by omega]; exact HIc.out.pm
        · show Srt _ _ _ _; rw [show min (i + 1) b = i + 1 by omega]; exact HIc.out.done hj2 (fun k hk hak => by omega)
      obtain ⟨k, hk⟩ : ∃ k : Nat, j = k + 1 := ⟨j - 1, by omega⟩
      have HKE := (show Hid _ from hk)
      have HK1 : Hid ((j : Int) - 1 = (k : Int)) := by show _ = _; omega
      have HKN : Hid (k < n) := by show k < n; omega
      have HAK : Hid (a ≤ k) := by show a ≤ k; omega
      have d1 : (a : Int) < (j : Int) := by omega
      have j1 : (0 : Int) ≤ (j : Int) := by omega
      have j2 : (j : Int) < (n : Int) := by omega
      have k1 : (0 : Int) ≤ (k : Int) := by omega
      have k2 : (k : Int) < (n : Int) := by omega
      clear hk
      go_upto_region 4 with fail
      refine wp_region_noPanic ?_
      refine wp_region_held_drew (S := fun w' => VA w' q (row c n) 3 ∧ Below wr.heap.size wr w') (by kernel_rfl) ⟨HV.out.drew, (Below.refl _ _).drew⟩ (fun hHeld => ?_)
      refine takeD 0 18 (.int .i64 (j : Int)) (by exact rfl) rfl (by kernel_rfl) (by kernel_rfl) (by kernel_rfl) (fun _ _ _ h => h) (Or.inl ⟨by rfl, ?_⟩) (by assumption) ?_
      · intro wq hS
        go_simp
      try simp only [Act.put, List.setIfInBounds_toArray, List.set_cons_zero, List.set_cons_succ]
      refine takeD 1 19 (.int .i64 (a : Int)) (by exact rfl) rfl (by kernel_rfl) (by kernel_rfl) (by kernel_rfl) (fun _ _ _ h => h) (Or.inl ⟨by rfl, ?_⟩) (by assumption) ?_
      · intro wq hS
        go_simp
      try simp only [Act.put, List.setIfInBounds_toArray, List.set_cons_zero, List.set_cons_succ]
      refine takeD 2 20 (.bool true) (by exact rfl) rfl (by kernel_rfl) (by kernel_rfl) (by kernel_rfl) (fun _ _ _ h => h) (Or.inl ⟨by rfl, ?_⟩) (by assumption) ?_
      · intro wq hS
        go_simp
      try simp only [Act.put, List.setIfInBounds_toArray, List.set_cons_zero, List.set_cons_succ]
      refine takeD 3 21 (.bool true) (by exact rfl) rfl (by kernel_rfl) (by kernel_rfl) (by kernel_rfl) (fun _ _ _ h => h) (Or.inl ⟨by rfl, ?_⟩) (by assumption) ?_
      · intro wq hS
        go_simp
      try simp only [Act.put, List.setIfInBounds_toArray, List.set_cons_zero, List.set_cons_succ]
      refine takeD 4 22 (.func (.func 44) #[] #[.pointer (some ⟨bx, 0, none⟩)]) (by exact rfl) rfl (by kernel_rfl) (by kernel_rfl) (by kernel_rfl) (fun _ _ _ h => h) (Or.inl ⟨by rfl, ?_⟩) (by assumption) ?_
      · intro wq hS
        go_simp
      try simp only [Act.put, List.setIfInBounds_toArray, List.set_cons_zero, List.set_cons_succ]
      refine takeD 5 23 (.slice (some ⟨q, 0, none⟩) n n) (by exact rfl) rfl (by kernel_rfl) (by kernel_rfl) (by kernel_rfl) (fun _ _ _ h => h) (Or.inl ⟨by rfl, ?_⟩) (by assumption) ?_
      · intro wq hS
        go_simp
      try simp only [Act.put, List.setIfInBounds_toArray, List.set_cons_zero, List.set_cons_succ]
      refine takeD 6 24 (.int .i64 (j : Int)) (by exact rfl) rfl (by kernel_rfl) (by kernel_rfl) (by kernel_rfl) (fun _ _ _ h => h) (Or.inl ⟨by rfl, ?_⟩) (by assumption) ?_
      · intro wq hS
        go_simp
      try simp only [Act.put, List.setIfInBounds_toArray, List.set_cons_zero, List.set_cons_succ]
      refine takeD 7 25 (.pointer (some ⟨q, j, none⟩)) (by exact rfl) rfl (by kernel_rfl) (by kernel_rfl) (by kernel_rfl) (fun _ _ _ h => h) (Or.inl ⟨by rfl, ?_⟩) (by assumption) ?_
      · intro wq hS
        go_simp
      try simp only [Act.put, List.setIfInBounds_toArray, List.set_cons_zero, List.set_cons_succ]
      refine takeD 8 26 (.int .i64 (c j : Int)) (by exact rfl) rfl (by kernel_rfl) (by kernel_rfl) (by kernel_rfl) (fun _ _ _ h => h) (Or.inl ⟨by rfl, ?_⟩) (by assumption) ?_
      · intro wq hS
        have h0 := hS.1.cell j (row_get c HJN.out)
        go_simp
      try simp only [Act.put, List.setIfInBounds_toArray, List.set_cons_zero, List.set_cons_succ]
      refine takeD 9 27 (.slice (some ⟨q, 0, none⟩) n n) (by exact rfl) rfl (by kernel_rfl) (by kernel_rfl) (by kernel_rfl) (fun _ _ _ h => h) (Or.inl ⟨by rfl, ?_⟩) (by assumption) ?_
      · intro wq hS
        go_simp
      try simp only [Act.put, List.setIfInBounds_toArray, List.set_cons_zero, List.set_cons_succ]
      refine takeD 10 28 (.int .i64 (j : Int)) (by exact rfl) rfl (by kernel_rfl) (by kernel_rfl) (by kernel_rfl) (fun _ _ _ h => h) (Or.inl ⟨by rfl, ?_⟩) (by assumption) ?_
      · intro wq hS
        go_simp
      try simp only [Act.put, List.setIfInBounds_toArray, List.set_cons_zero, List.set_cons_succ]
      refine takeD 11 29 (.int .i64 (k : Int)) (by exact rfl) rfl (by kernel_rfl) (by kernel_rfl) (by kernel_rfl) (fun _ _ _ h => h) (Or.inl ⟨by rfl, ?_⟩) (by assumption) ?_
      · intro wq hS
        have q3 := HK1.out
        go_simp
        rw [IntKind.wrap_i64]; omega
      try simp only [Act.put, List.setIfInBounds_toArray, List.set_cons_zero, List.set_cons_succ]
      refine takeD 12 30 (.pointer (some ⟨q, k, none⟩)) (by exact rfl) rfl (by kernel_rfl) (by kernel_rfl) (by kernel_rfl) (fun _ _ _ h => h) (Or.inl ⟨by rfl, ?_⟩) (by assumption) ?_
      · intro wq hS
        go_simp
      try simp only [Act.put, List.setIfInBounds_toArray, List.set_cons_zero, List.set_cons_succ]
      refine takeD 13 31 (.int .i64 (c k : Int)) (by exact rfl) rfl (by kernel_rfl) (by kernel_rfl) (by kernel_rfl) (fun _ _ _ h => h) (Or.inl ⟨by rfl, ?_⟩) (by assumption) ?_
      · intro wq hS
        have h0 := hS.1.cell k (row_get c HKN.out)
        go_simp
      try simp only [Act.put, List.setIfInBounds_toArray, List.set_cons_zero, List.set_cons_succ]
      refine wpAnyH_ready (rs := [14]) (by kernel_rfl) (by simp) ?_
      refine AllReadyH.cons (by exact rfl) (fun K hK => ?_) AllReadyH.nil
      go_simp
      refine (HKC.out.call (c j) (c k) _ (HIc.out.bd (by omega) HBF.out _ HJN.out) (HIc.out.bd (by omega) HBF.out _ HKN.out) (HKC.out.keep _ _ HC.out (HU.out.trans (Qx.of_bel hHeld.2)))).mono ?_
      rintro e w1 ⟨⟨z, rfl, hz⟩, b1⟩
      have hH2 := (show VA w1 q _ _ ∧ Below wr.heap.size wr w1 from ⟨hHeld.1.step b1, hHeld.2.trans (b1.mono hHeld.2.size)⟩)
      clear hHeld b1
      go_wp2_with fail
      refine hK.out _ _ hH2 (fun hHeld => ?_)
      clear hH2
      try simp only [Act.put, List.setIfInBounds_toArray, List.set_cons_zero, List.set_cons_succ]
      clear hK K
      have HZ := (show Hid _ from hz)
      clear hz
      by_cases hz0 : z < 0
      · refine takeD 15 33 (.bool true) (by exact rfl) rfl (by kernel_rfl) (by kernel_rfl) (by kernel_rfl) (fun _ _ _ h => h) (Or.inl ⟨by rfl, ?_⟩) (by assumption) ?_
        · intro wq hS
          go_simp
        try simp only [Act.put, List.setIfInBounds_toArray, List.set_cons_zero, List.set_cons_succ]
        refine takeD 16 34 (.bool true) (by exact rfl) rfl (by kernel_rfl) (by kernel_rfl) (by kernel_rfl) (fun _ _ _ h => h) (Or.inl ⟨by rfl, ?_⟩) (by assumption) ?_
        · intro wq hS
          go_simp
        try simp only [Act.put, List.setIfInBounds_toArray, List.set_cons_zero, List.set_cons_succ]
        refine wpAnyH_done (by kernel_rfl) ?_ _
        refine NoPanic.normal ?_
        have HV2 := (show Hid _ from hHeld.1)
        have HU2 := (show Hid _ from HU.out.trans (Qx.of_bel hHeld.2))
        have HRR : Hid (R (c k) < R (c j)) := HZ.out.1 hz0
        have HXN := HJN
        have HYN := HKN
        have HXY : Hid (¬ j = k) := by show ¬ j = k; have := HKE.out; omega
        clear hHeld HZ hz0 HV HU
        have HV := HV2
        have HU := HU2
        clear HV2 HU2
        go_upto_region 6 with fail
        refine wp_region_noPanic ?_
        refine wp_region_held_drew (S := fun w' => True) (by kernel_rfl) trivial (fun hHeld => ?_)
        refine takeD 0 37 (.slice (some ⟨q, 0, none⟩) n n) (by exact rfl) rfl (by kernel_rfl) (by kernel_rfl) (by kernel_rfl) (fun _ _ _ h => h) (Or.inl ⟨by rfl, ?_⟩) (by assumption) ?_
        · intro wq hS
          go_simp
        try simp only [Act.put, List.setIfInBounds_toArray, List.set_cons_zero, List.set_cons_succ]
        refine takeD 1 38 (.int .i64 (j : Int)) (by exact rfl) rfl (by kernel_rfl) (by kernel_rfl) (by kernel_rfl) (fun _ _ _ h => h) (Or.inl ⟨by rfl, ?_⟩) (by assumption) ?_
        · intro wq hS
          go_simp
        try simp only [Act.put, List.setIfInBounds_toArray, List.set_cons_zero, List.set_cons_succ]
        refine takeD 2 39 (.slice (some ⟨q, 0, none⟩) n n) (by exact rfl) rfl (by kernel_rfl) (by kernel_rfl) (by kernel_rfl) (fun _ _ _ h => h) (Or.inl ⟨by rfl, ?_⟩) (by assumption) ?_
        · intro wq hS
          go_simp
        try simp only [Act.put, List.setIfInBounds_toArray, List.set_cons_zero, List.set_cons_succ]
        refine takeD 3 40 (.int .i64 (j : Int)) (by exact rfl) rfl (by kernel_rfl) (by kernel_rfl) (by kernel_rfl) (fun _ _ _ h => h) (Or.inl ⟨by rfl, ?_⟩) (by assumption) ?_
        · intro wq hS
          go_simp
        try simp only [Act.put, List.setIfInBounds_toArray, List.set_cons_zero, List.set_cons_succ]
        refine takeD 4 41 (.int .i64 (k : Int)) (by exact rfl) rfl (by kernel_rfl) (by kernel_rfl) (by kernel_rfl) (fun _ _ _ h => h) (Or.inl ⟨by rfl, ?_⟩) (by assumption) ?_
        · intro wq hS
          have q3 := HK1.out
          go_simp
          rw [IntKind.wrap_i64]; omega
        try simp only [Act.put, List.setIfInBounds_toArray, List.set_cons_zero, List.set_cons_succ]
        refine takeD 5 42 (.slice (some ⟨q, 0, none⟩) n n) (by exact rfl) rfl (by kernel_rfl) (by kernel_rfl) (by kernel_rfl) (fun _ _ _ h => h) (Or.inl ⟨by rfl, ?_⟩) (by assumption) ?_
        · intro wq hS
          go_simp
        try simp only [Act.put, List.setIfInBounds_toArray, List.set_cons_zero, List.set_cons_succ]
        refine takeD 6 43 (.int .i64 (j : Int)) (by exact rfl) rfl (by kernel_rfl) (by kernel_rfl) (by kernel_rfl) (fun _ _ _ h => h) (Or.inl ⟨by rfl, ?_⟩) (by assumption) ?_
        · intro wq hS
          go_simp
        try simp only [Act.put, List.setIfInBounds_toArray, List.set_cons_zero, List.set_cons_succ]
        refine takeD 7 44 (.int .i64 (k : Int)) (by exact rfl) rfl (by kernel_rfl) (by kernel_rfl) (by kernel_rfl) (fun _ _ _ h => h) (Or.inl ⟨by rfl, ?_⟩) (by assumption) ?_
        · intro wq hS
          have q3 := HK1.out
          go_simp
          rw [IntKind.wrap_i64]; omega
        try simp only [Act.put, List.setIfInBounds_toArray, List.set_cons_zero, List.set_cons_succ]
        refine takeD 8 45 (.pointer (some ⟨q, k, none⟩)) (by exact rfl) rfl (by kernel_rfl) (by kernel_rfl) (by kernel_rfl) (fun _ _ _ h => h) (Or.inl ⟨by rfl, ?_⟩) (by assumption) ?_
        · intro wq hS
          go_simp
        try simp only [Act.put, List.setIfInBounds_toArray, List.set_cons_zero, List.set_cons_succ]
        refine takeD 10 47 (.slice (some ⟨q, 0, none⟩) n n) (by exact rfl) rfl (by kernel_rfl) (by kernel_rfl) (by kernel_rfl) (fun _ _ _ h => h) (Or.inl ⟨by rfl, ?_⟩) (by assumption) ?_
        · intro wq hS
          go_simp
        try simp only [Act.put, List.setIfInBounds_toArray, List.set_cons_zero, List.set_cons_succ]
        refine takeD 11 48 (.int .i64 (j : Int)) (by exact rfl) rfl (by kernel_rfl) (by kernel_rfl) (by kernel_rfl) (fun _ _ _ h => h) (Or.inl ⟨by rfl, ?_⟩) (by assumption) ?_
        · intro wq hS
          go_simp
        try simp only [Act.put, List.setIfInBounds_toArray, List.set_cons_zero, List.set_cons_succ]
        refine takeD 12 49 (.pointer (some ⟨q, j, none⟩)) (by exact rfl) rfl (by kernel_rfl) (by kernel_rfl) (by kernel_rfl) (fun _ _ _ h => h) (Or.inl ⟨by rfl, ?_⟩) (by assumption) ?_
        · intro wq hS
          go_simp
        try simp only [Act.put, List.setIfInBounds_toArray, List.set_cons_zero, List.set_cons_succ]
        have V7 : VA w1.drew q (row c n) 3 := HV.out.drew
        have U7 : Qx q w w1.drew := HU.out.trans (Qx.of_bel (Below.refl _ _).drew)
        generalize w1.drew = w7 at *
        clear hHeld HV HU
        have cX := V7.cell j (row_get c HXN.out)
        have cY := V7.cell k (row_get c HYN.out)
        have fX := V7.free j
        have fY := (V7.set j (.int .i64 (c k : Int))).free k
        have cY2 := (V7.set j (.int .i64 (c k : Int))).cell k (v := .int .i64 (c k : Int)) (by rw [List.getElem?_set, if_neg HXY.out]; exact row_get c HYN.out)
        have HV7 := (show Hid _ from V7)
        have HU7 := (show Hid _ from U7)
        clear V7 U7
        refine wpAnyH_ready (rs := [9, 13]) (by kernel_rfl) (by simp) ?_
        refine AllReadyH.cons (by exact rfl) (fun K hK => ?_) (AllReadyH.cons (by exact rfl) (fun K hK => ?_) AllReadyH.nil)
        · go_simp
          refine hK.out _ _ trivial (fun hHeld => ?_)
          clear hK K hHeld
          try simp only [Act.put, List.setIfInBounds_toArray, List.set_cons_zero, List.set_cons_succ]
          refine wpAnyH_ready (rs := [13]) (by kernel_rfl) (by simp) ?_
          refine AllReadyH.cons (by exact rfl) (fun K hK => ?_) AllReadyH.nil
          go_simp
          refine hK.out _ _ trivial (fun hHeld => ?_)
          clear hK K hHeld
          try simp only [Act.put, List.setIfInBounds_toArray, List.set_cons_zero, List.set_cons_succ]
          have hHeld : True := trivial
          refine takeD 14 51 (.pointer (some ⟨q, j, none⟩)) (by exact rfl) rfl (by kernel_rfl) (by kernel_rfl) (by kernel_rfl) (fun _ _ _ h => h) (Or.inl ⟨by rfl, ?_⟩) (by assumption) ?_
          · intro wq hS
            go_simp
          try simp only [Act.put, List.setIfInBounds_toArray, List.set_cons_zero, List.set_cons_succ]
          clear hHeld
          refine wpAnyH_ready (rs := [15]) (by kernel_rfl) (by simp) ?_
          refine AllReadyH.cons (by exact rfl) (fun K hK => ?_) AllReadyH.nil
          go_simp
          refine hK.out _ _ trivial (fun hHeld => ?_)
          clear hK K hHeld
          try simp only [Act.put, List.setIfInBounds_toArray, List.set_cons_zero, List.set_cons_succ]
          have hHeld : True := trivial
          refine takeD 16 52 (.pointer (some ⟨q, k, none⟩)) (by exact rfl) rfl (by kernel_rfl) (by kernel_rfl) (by kernel_rfl) (fun _ _ _ h => h) (Or.inl ⟨by rfl, ?_⟩) (by assumption) ?_
          · intro wq hS
            go_simp
          try simp only [Act.put, List.setIfInBounds_toArray, List.set_cons_zero, List.set_cons_succ]
          clear hHeld
          refine wpAnyH_ready (rs := [17]) (by kernel_rfl) (by simp) ?_
          refine AllReadyH.cons (by exact rfl) (fun K hK => ?_) AllReadyH.nil
          go_simp
          refine hK.out _ _ trivial (fun hHeld => ?_)
          clear hK K hHeld
          try simp only [Act.put, List.setIfInBounds_toArray, List.set_cons_zero, List.set_cons_succ]
          refine wpAnyH_done (by kernel_rfl) ?_ _
          refine NoPanic.normal ?_
          have V8 := (HV7.out.set j (.int .i64 (c k : Int))).set k (.int .i64 (c j : Int))
          have U8 := HU7.out.trans ((Qx.of_upd (upd_set w7 q j (.int .i64 (c k : Int)))).trans (Qx.of_upd (upd_set _ q k (.int .i64 (c j : Int)))))
          rw [row_swp c HXN.out HYN.out] at V8
          have HV8 := (show Hid _ from V8)
          have HU8 := (show Hid _ from U8)
          clear V8 U8 cX cY fX fY cY2 HV7 HU7
          generalize (w7.setCell ⟨q, j, none⟩ (.int .i64 (c k : Int))).setCell ⟨q, k, none⟩ (.int .i64 (c j : Int)) = w8 at *
          have e9 := HK1.out
          go_wp2_with fail
          refine ⟨⟨k, swp c j k, HAK.out, by have := HKE.out; omega, by first | rfl | go_num, HIc.out.swap HKE.out HAK.out hj2 HRR.out, HV8.out, HU8.out⟩, by simp [intOf]; omega⟩
        · go_simp
          refine hK.out _ _ trivial (fun hHeld => ?_)
          clear hK K hHeld
          try simp only [Act.put, List.setIfInBounds_toArray, List.set_cons_zero, List.set_cons_succ]
          refine wpAnyH_ready (rs := [9]) (by kernel_rfl) (by simp) ?_
          refine AllReadyH.cons (by exact rfl) (fun K hK => ?_) AllReadyH.nil
          go_simp
          refine hK.out _ _ trivial (fun hHeld => ?_)
          clear hK K hHeld
          try simp only [Act.put, List.setIfInBounds_toArray, List.set_cons_zero, List.set_cons_succ]
          have hHeld : True := trivial
          refine takeD 14 51 (.pointer (some ⟨q, j, none⟩)) (by exact rfl) rfl (by kernel_rfl) (by kernel_rfl) (by kernel_rfl) (fun _ _ _ h => h) (Or.inl ⟨by rfl, ?_⟩) (by assumption) ?_
          · intro wq hS
            go_simp
          try simp only [Act.put, List.setIfInBounds_toArray, List.set_cons_zero, List.set_cons_succ]
          clear hHeld
          refine wpAnyH_ready (rs := [15]) (by kernel_rfl) (by simp) ?_
          refine AllReadyH.cons (by exact rfl) (fun K hK => ?_) AllReadyH.nil
          go_simp
          refine hK.out _ _ trivial (fun hHeld => ?_)
          clear hK K hHeld
          try simp only [Act.put, List.setIfInBounds_toArray, List.set_cons_zero, List.set_cons_succ]
          have hHeld : True := trivial
          refine takeD 16 52 (.pointer (some ⟨q, k, none⟩)) (by exact rfl) rfl (by kernel_rfl) (by kernel_rfl) (by kernel_rfl) (fun _ _ _ h => h) (Or.inl ⟨by rfl, ?_⟩) (by assumption) ?_
          · intro wq hS
            go_simp
          try simp only [Act.put, List.setIfInBounds_toArray, List.set_cons_zero, List.set_cons_succ]
          clear hHeld
          refine wpAnyH_ready (rs := [17]) (by kernel_rfl) (by simp) ?_
          refine AllReadyH.cons (by exact rfl) (fun K hK => ?_) AllReadyH.nil
          go_simp
          refine hK.out _ _ trivial (fun hHeld => ?_)
          clear hK K hHeld
          try simp only [Act.put, List.setIfInBounds_toArray, List.set_cons_zero, List.set_cons_succ]
          refine wpAnyH_done (by kernel_rfl) ?_ _
          refine NoPanic.normal ?_
          have V8 := (HV7.out.set j (.int .i64 (c k : Int))).set k (.int .i64 (c j : Int))
          have U8 := HU7.out.trans ((Qx.of_upd (upd_set w7 q j (.int .i64 (c k : Int)))).trans (Qx.of_upd (upd_set _ q k (.int .i64 (c j : Int)))))
          rw [row_swp c HXN.out HYN.out] at V8
          have HV8 := (show Hid _ from V8)
          have HU8 := (show Hid _ from U8)
          clear V8 U8 cX cY fX fY cY2 HV7 HU7
          generalize (w7.setCell ⟨q, j, none⟩ (.int .i64 (c k : Int))).setCell ⟨q, k, none⟩ (.int .i64 (c j : Int)) = w8 at *
          have e9 := HK1.out
          go_wp2_with fail
          refine ⟨⟨k, swp c j k, HAK.out, by have := HKE.out; omega, by first | rfl | go_num, HIc.out.swap HKE.out HAK.out hj2 HRR.out, HV8.out, HU8.out⟩, by simp [intOf]; omega⟩
      · refine takeD 15 33 (.bool false) (by exact rfl) rfl (by kernel_rfl) (by kernel_rfl) (by kernel_rfl) (fun _ _ _ h => h) (Or.inl ⟨by rfl, ?_⟩) (by assumption) ?_
        · intro wq hS
          go_simp
        try simp only [Act.put, List.setIfInBounds_toArray, List.set_cons_zero, List.set_cons_succ]
        refine takeD 16 34 (.bool false) (by exact rfl) rfl (by kernel_rfl) (by kernel_rfl) (by kernel_rfl) (fun _ _ _ h => h) (Or.inl ⟨by rfl, ?_⟩) (by assumption) ?_
        · intro wq hS
          go_simp
        try simp only [Act.put, List.setIfInBounds_toArray, List.set_cons_zero, List.set_cons_succ]
        refine wpAnyH_done (by kernel_rfl) ?_ _
        refine NoPanic.normal ?_
        have HV2 := (show Hid _ from hHeld.1)
        have HU2 := (show Hid _ from HU.out.trans (Qx.of_bel hHeld.2))
        have HRR : Hid (¬ R (c k) < R (c j)) := fun hq => hz0 (HZ.out.2 hq)
        clear hHeld HZ hz0
        go_wp2_with fail
        refine ⟨⟨i + 1, c, by omega, by omega, by go_num, ?_, ?_, HV2.out, HU2.out⟩, by simp [intOf]; omega⟩
        · show Pm _ _ _ _; rw [show min (i + 1) b = i + 1 by omega]; exact HIc.out.pm
        · show Srt _ _ _ _; rw [show min (i + 1) b = i + 1 by omega]; exact HIc.out.done hj2 (fun k' hk' _ => by have := HKE.out; rw [show k' = k by omega]; exact HRR.out)
end Go.Proofs.YtbgglghapjfdeaaDoor
