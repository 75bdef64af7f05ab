/- money's sort: a merge where one side is one element (slices.symMergeCmpFunc). -/
import Derived.Test.YtbgglghapjfdeaaDoorSsd
namespace Go.Proofs.YtbgglghapjfdeaaDoor
open Go.RowKit
set_option linter.unusedVariables false

theorem up_below {R f : Nat → Nat} {m b h v : Nat} (S : Srt R f m b) (hb : h < b) (hv : bf R (f h) v) : ∀ x, m ≤ x → x < h + 1 → bf R (f x) v := by
  intro x h1 h2
  by_cases e : x = h
  · rw [e]; exact hv
  · exact (S x h h1 (by omega) hb).trans hv
theorem dn_above {R f : Nat → Nat} {m b h v : Nat} (S : Srt R f m b) (hm : m ≤ h) (hv : bf R v (f h)) : ∀ x, h ≤ x → x < b → bf R v (f x) := by
  intro x h1 h2
  by_cases e : x = h
  · rw [e]; exact hv
  · exact hv.trans (S h x hm (by omega) h2)
set_option maxHeartbeats 8000000 in
set_option maxRecDepth 100000 in
theorem sym_left (q n bx a m b : Nat) (R f : Nat → Nat) (C : World → Prop) (KC : Cmpr q n bx R C) (w : World) (V : VA w q (row f n) 3) (hC : C w) (h1 : a < m) (h2 : m < b) (h4 : b ≤ n) (h3 : n ≤ 1000000) (B : ∀ x, x < n → f x < n) (S1 : Srt R f a m) (S2 : Srt R f m b) (L : ∀ x y, a ≤ x → x < m → m ≤ y → y < b → f x < f y) (hm : m = a + 1) :
    Calls Tryd.prog 56 #[.slice (some ⟨q, 0, none⟩) n n, .int .i64 (a : Int), .int .i64 (m : Int), .int .i64 (b : Int), .func (.func 44) #[] #[.pointer (some ⟨bx, 0, none⟩)]] w fun e w' => e = .returned (.tuple #[]) ∧ ∃ g, VA w' q (row g n) 3 ∧ Pm f g a b ∧ Srt R g a b ∧ Qx q w w' := by
  have HV0 := (show Hid _ from V)
  have HKC := (show Hid _ from KC)
  have HC := (show Hid _ from hC)
  have HBF := (show Hid _ from B)
  have HS1 := (show Hid _ from S1)
  have HS2 := (show Hid _ from S2)
  have HL := (show Hid _ from L)
  clear V KC hC B S1 S2 L
  have e0 : (m : Int) - (a : Int) = 1 := by omega
  have HM := (show Hid _ from hm)
  have HAN : Hid (a < n) := by show a < n; omega
  clear hm
  go_enter Tryd.func56, Tryd.ntmps56
  go_wp2_with fail
  go_loopw [10, 11] (fun s10 s11 wr => ∃ (i j : Nat), m ≤ i ∧ i ≤ j ∧ j ≤ b ∧ s10 = .int .i64 (i : Int) ∧ s11 = .int .i64 (j : Int) ∧ Hid (∀ x, m ≤ x → x < i → bf R (f x) (f a)) ∧ Hid (∀ x, j ≤ x → x < b → bf R (f a) (f x)) ∧ Hid (VA wr q (row f n) 3) ∧ Hid (Qx q w wr)) (fun s10 s11 _ => (intOf s11).toNat - (intOf s10).toNat)
  case atStart => exact ⟨m, b, by omega, by omega, by omega, by go_num, rfl, fun x _ _ => by omega, fun x _ _ => by omega, HV0.out, Qx.refl _ _⟩
  case round =>
    obtain ⟨i, j, hi1, hij, hj1, rfl, rfl, HLo, HUp, HV, HU⟩ := hrel
    clear HV0
    by_cases hji : (j : Int) ≤ (i : Int)
    · obtain rfl : i = j := by omega
      clear hji
      go_wp2_with fail
      go_loopw [13] (fun s13 wr => ∃ k : Nat, a ≤ k ∧ k + 1 ≤ i ∧ s13 = .int .i64 (k : Int) ∧ Hid (VA wr q (row (rot f a (a + 1) (k + 1)) n) 3) ∧ Hid (Qx q w wr)) (fun s13 _ => i - (intOf s13).toNat)
      case atStart => exact ⟨a, by omega, by omega, rfl, by rw [rot_none2]; exact HV.out, HU.out⟩
      case round =>
        obtain ⟨k, hk1, hk2, rfl, HV', HU'⟩ := hrel
        clear HV HU
        have HV := HV'
        have HU := HU'
        clear HV' HU'
        by_cases hki : k + 1 = i
        · have e7 : (i : Int) - 1 = (k : Int) := by omega
          have HKI := (show Hid _ from hki)
          clear hki
          go_wp2_with fail
          refine bodyPost_ret (v := .tuple #[]) (by simp [results, Tryd.results56, go_sem]) rfl ⟨rfl, rot f a (a + 1) i, ?_, ?_, ?_, HU.out⟩
          · have := HV.out; rwa [HKI.out] at this
          · exact (rot_pm f (by omega) (by omega)).wide (Nat.le_refl _) (by omega)
          · have := HM.out
            refine rot_srt (Nat.le_refl _) (by omega) (by omega) hj1 (by rw [← HM.out]; exact HS1.out) (by rw [← HM.out]; exact HS2.out) ?_ ?_ ?_ ?_
            · intro x y x1 x2; omega
            · intro x y x1 x2 y1 y2; rw [show y = a by omega]; exact HLo.out x (by omega) x2
            · intro x y x1 x2 y1 y2; rw [show x = a by omega]; exact HUp.out y y1 y2
            · intro x y x1 x2; omega
        have d7 : (k : Int) < (i : Int) - 1 := by omega
        obtain ⟨k', hk'⟩ : ∃ k' : Nat, k' = k + 1 := ⟨_, rfl⟩
        have HKE := (show Hid _ from hk')
        have HK1 : Hid ((k : Int) + 1 = (k' : Int)) := by show _ = _; omega
        have HXN : Hid (k < n) := by show k < n; omega
        have HYN : Hid (k' < n) := by show k' < n; omega
        have HXY : Hid (¬ k = k') := by show ¬ k = k'; omega
        have x1 : (0 : Int) ≤ (k : Int) := by omega
        have x2 : (k : Int) < (n : Int) := by omega
        have y1 : (0 : Int) ≤ (k' : Int) := by omega
        have y2 : (k' : Int) < (n : Int) := by omega
        clear hk'
        go_upto_region 11 with fail
        refine wp_region_noPanic ?_
        refine wp_region_held_drew (S := fun w' => True) (by kernel_rfl) trivial (fun hHeld => ?_)
        refine takeD 0 61 (.slice (some ⟨q, 0, none⟩) n n) (by exact rfl) rfl (by kernel_rfl) (by kernel_rfl) (by kernel_rfl) (fun _ _ _ h => h) (Or.inl ⟨by rfl, ?_⟩) (by assumption) ?_
        · intro wq hS
          go_simp
        try simp only [Act.put, List.setIfInBounds_toArray, List.set_cons_zero, List.set_cons_succ]
        refine takeD 1 62 (.int .i64 (k : Int)) (by exact rfl) rfl (by kernel_rfl) (by kernel_rfl) (by kernel_rfl) (fun _ _ _ h => h) (Or.inl ⟨by rfl, ?_⟩) (by assumption) ?_
        · intro wq hS
          go_simp
        try simp only [Act.put, List.setIfInBounds_toArray, List.set_cons_zero, List.set_cons_succ]
        refine takeD 2 63 (.slice (some ⟨q, 0, none⟩) n n) (by exact rfl) rfl (by kernel_rfl) (by kernel_rfl) (by kernel_rfl) (fun _ _ _ h => h) (Or.inl ⟨by rfl, ?_⟩) (by assumption) ?_
        · intro wq hS
          go_simp
        try simp only [Act.put, List.setIfInBounds_toArray, List.set_cons_zero, List.set_cons_succ]
        refine takeD 3 64 (.int .i64 (k : Int)) (by exact rfl) rfl (by kernel_rfl) (by kernel_rfl) (by kernel_rfl) (fun _ _ _ h => h) (Or.inl ⟨by rfl, ?_⟩) (by assumption) ?_
        · intro wq hS
          go_simp
        try simp only [Act.put, List.setIfInBounds_toArray, List.set_cons_zero, List.set_cons_succ]
        refine takeD 4 65 (.int .i64 (k' : Int)) (by exact rfl) rfl (by kernel_rfl) (by kernel_rfl) (by kernel_rfl) (fun _ _ _ h => h) (Or.inl ⟨by rfl, ?_⟩) (by assumption) ?_
        · intro wq hS
          have q3 := HK1.out
          go_simp
          rw [IntKind.wrap_i64]; omega
        try simp only [Act.put, List.setIfInBounds_toArray, List.set_cons_zero, List.set_cons_succ]
        refine takeD 5 66 (.slice (some ⟨q, 0, none⟩) n n) (by exact rfl) rfl (by kernel_rfl) (by kernel_rfl) (by kernel_rfl) (fun _ _ _ h => h) (Or.inl ⟨by rfl, ?_⟩) (by assumption) ?_
        · intro wq hS
          go_simp
        try simp only [Act.put, List.setIfInBounds_toArray, List.set_cons_zero, List.set_cons_succ]
        refine takeD 6 67 (.int .i64 (k : Int)) (by exact rfl) rfl (by kernel_rfl) (by kernel_rfl) (by kernel_rfl) (fun _ _ _ h => h) (Or.inl ⟨by rfl, ?_⟩) (by assumption) ?_
        · intro wq hS
          go_simp
        try simp only [Act.put, List.setIfInBounds_toArray, List.set_cons_zero, List.set_cons_succ]
        refine takeD 7 68 (.int .i64 (k' : Int)) (by exact rfl) rfl (by kernel_rfl) (by kernel_rfl) (by kernel_rfl) (fun _ _ _ h => h) (Or.inl ⟨by rfl, ?_⟩) (by assumption) ?_
        · intro wq hS
          have q3 := HK1.out
          go_simp
          rw [IntKind.wrap_i64]; omega
        try simp only [Act.put, List.setIfInBounds_toArray, List.set_cons_zero, List.set_cons_succ]
        refine takeD 8 69 (.pointer (some ⟨q, k', none⟩)) (by exact rfl) rfl (by kernel_rfl) (by kernel_rfl) (by kernel_rfl) (fun _ _ _ h => h) (Or.inl ⟨by rfl, ?_⟩) (by assumption) ?_
        · intro wq hS
          go_simp
        try simp only [Act.put, List.setIfInBounds_toArray, List.set_cons_zero, List.set_cons_succ]
        refine takeD 10 71 (.slice (some ⟨q, 0, none⟩) n n) (by exact rfl) rfl (by kernel_rfl) (by kernel_rfl) (by kernel_rfl) (fun _ _ _ h => h) (Or.inl ⟨by rfl, ?_⟩) (by assumption) ?_
        · intro wq hS
          go_simp
        try simp only [Act.put, List.setIfInBounds_toArray, List.set_cons_zero, List.set_cons_succ]
        refine takeD 11 72 (.int .i64 (k : Int)) (by exact rfl) rfl (by kernel_rfl) (by kernel_rfl) (by kernel_rfl) (fun _ _ _ h => h) (Or.inl ⟨by rfl, ?_⟩) (by assumption) ?_
        · intro wq hS
          go_simp
        try simp only [Act.put, List.setIfInBounds_toArray, List.set_cons_zero, List.set_cons_succ]
        refine takeD 12 73 (.pointer (some ⟨q, k, none⟩)) (by exact rfl) rfl (by kernel_rfl) (by kernel_rfl) (by kernel_rfl) (fun _ _ _ h => h) (Or.inl ⟨by rfl, ?_⟩) (by assumption) ?_
        · intro wq hS
          go_simp
        try simp only [Act.put, List.setIfInBounds_toArray, List.set_cons_zero, List.set_cons_succ]
        have V7 : VA wr.drew q (row (rot f a (a + 1) (k + 1)) n) 3 := HV.out.drew
        have U7 : Qx q w wr.drew := HU.out.trans (Qx.of_bel (Below.refl _ _).drew)
        generalize wr.drew = w7 at *
        clear hHeld HV HU
        have cX := V7.cell k (row_get (rot f a (a + 1) (k + 1)) HXN.out)
        have cY := V7.cell k' (row_get (rot f a (a + 1) (k + 1)) HYN.out)
        have fX := V7.free k
        have fY := (V7.set k (.int .i64 ((rot f a (a + 1) (k + 1)) k' : Int))).free k'
        have cY2 := (V7.set k (.int .i64 ((rot f a (a + 1) (k + 1)) k' : Int))).cell k' (v := .int .i64 ((rot f a (a + 1) (k + 1)) k' : Int)) (by rw [List.getElem?_set, if_neg HXY.out]; exact row_get (rot f a (a + 1) (k + 1)) HYN.out)
        have HV7 := (show Hid _ from V7)
        have HU7 := (show Hid _ from U7)
        clear V7 U7
        refine wpAnyH_ready (rs := [9, 13]) (by kernel_rfl) (by simp) ?_
        refine AllReadyH.cons (by exact rfl) (fun K hK => ?_) (AllReadyH.cons (by exact rfl) (fun K hK => ?_) AllReadyH.nil)
        · go_simp
          refine hK.out _ _ trivial (fun hHeld => ?_)
          clear hK K hHeld
          try simp only [Act.put, List.setIfInBounds_toArray, List.set_cons_zero, List.set_cons_succ]
          refine wpAnyH_ready (rs := [13]) (by kernel_rfl) (by simp) ?_
          refine AllReadyH.cons (by exact rfl) (fun K hK => ?_) AllReadyH.nil
          go_simp
          refine hK.out _ _ trivial (fun hHeld => ?_)
          clear hK K hHeld
          try simp only [Act.put, List.setIfInBounds_toArray, List.set_cons_zero, List.set_cons_succ]
          have hHeld : True := trivial
          refine takeD 14 75 (.pointer (some ⟨q, k, none⟩)) (by exact rfl) rfl (by kernel_rfl) (by kernel_rfl) (by kernel_rfl) (fun _ _ _ h => h) (Or.inl ⟨by rfl, ?_⟩) (by assumption) ?_
          · intro wq hS
            go_simp
          try simp only [Act.put, List.setIfInBounds_toArray, List.set_cons_zero, List.set_cons_succ]
          clear hHeld
          refine wpAnyH_ready (rs := [15]) (by kernel_rfl) (by simp) ?_
          refine AllReadyH.cons (by exact rfl) (fun K hK => ?_) AllReadyH.nil
          go_simp
          refine hK.out _ _ trivial (fun hHeld => ?_)
          clear hK K hHeld
          try simp only [Act.put, List.setIfInBounds_toArray, List.set_cons_zero, List.set_cons_succ]
          have hHeld : True := trivial
          refine takeD 16 76 (.pointer (some ⟨q, k', none⟩)) (by exact rfl) rfl (by kernel_rfl) (by kernel_rfl) (by kernel_rfl) (fun _ _ _ h => h) (Or.inl ⟨by rfl, ?_⟩) (by assumption) ?_
          · intro wq hS
            go_simp
          try simp only [Act.put, List.setIfInBounds_toArray, List.set_cons_zero, List.set_cons_succ]
          clear hHeld
          refine wpAnyH_ready (rs := [17]) (by kernel_rfl) (by simp) ?_
          refine AllReadyH.cons (by exact rfl) (fun K hK => ?_) AllReadyH.nil
          go_simp
          refine hK.out _ _ trivial (fun hHeld => ?_)
          clear hK K hHeld
          try simp only [Act.put, List.setIfInBounds_toArray, List.set_cons_zero, List.set_cons_succ]
          refine wpAnyH_done (by kernel_rfl) ?_ _
          refine NoPanic.normal ?_
          have V8 := (HV7.out.set k (.int .i64 ((rot f a (a + 1) (k + 1)) k' : Int))).set k' (.int .i64 ((rot f a (a + 1) (k + 1)) k : Int))
          have U8 := HU7.out.trans ((Qx.of_upd (upd_set w7 q k (.int .i64 ((rot f a (a + 1) (k + 1)) k' : Int)))).trans (Qx.of_upd (upd_set _ q k' (.int .i64 ((rot f a (a + 1) (k + 1)) k : Int)))))
          rw [row_swp (rot f a (a + 1) (k + 1)) HXN.out HYN.out] at V8
          have HV8 := (show Hid _ from V8)
          have HU8 := (show Hid _ from U8)
          clear V8 U8 cX cY fX fY cY2 HV7 HU7
          generalize (w7.setCell ⟨q, k, none⟩ (.int .i64 ((rot f a (a + 1) (k + 1)) k' : Int))).setCell ⟨q, k', none⟩ (.int .i64 ((rot f a (a + 1) (k + 1)) k : Int)) = w8 at *
          have e9 := HK1.out
          go_wp2_with fail
          refine ⟨⟨k', by have := HKE.out; omega, by have := HKE.out; omega, by first | rfl | go_num, ?_, HU8.out⟩, by simp [intOf]; omega⟩
          have v8 := HV8.out
          rw [HKE.out, rot_up f hk1] at v8
          rw [HKE.out]
          exact v8
        · go_simp
          refine hK.out _ _ trivial (fun hHeld => ?_)
          clear hK K hHeld
          try simp only [Act.put, List.setIfInBounds_toArray, List.set_cons_zero, List.set_cons_succ]
          refine wpAnyH_ready (rs := [9]) (by kernel_rfl) (by simp) ?_
          refine AllReadyH.cons (by exact rfl) (fun K hK => ?_) AllReadyH.nil
          go_simp
          refine hK.out _ _ trivial (fun hHeld => ?_)
          clear hK K hHeld
          try simp only [Act.put, List.setIfInBounds_toArray, List.set_cons_zero, List.set_cons_succ]
          have hHeld : True := trivial
          refine takeD 14 75 (.pointer (some ⟨q, k, none⟩)) (by exact rfl) rfl (by kernel_rfl) (by kernel_rfl) (by kernel_rfl) (fun _ _ _ h => h) (Or.inl ⟨by rfl, ?_⟩) (by assumption) ?_
          · intro wq hS
            go_simp
          try simp only [Act.put, List.setIfInBounds_toArray, List.set_cons_zero, List.set_cons_succ]
          clear hHeld
          refine wpAnyH_ready (rs := [15]) (by kernel_rfl) (by simp) ?_
          refine AllReadyH.cons (by exact rfl) (fun K hK => ?_) AllReadyH.nil
          go_simp
          refine hK.out _ _ trivial (fun hHeld => ?_)
          clear hK K hHeld
          try simp only [Act.put, List.setIfInBounds_toArray, List.set_cons_zero, List.set_cons_succ]
          have hHeld : True := trivial
          refine takeD 16 76 (.pointer (some ⟨q, k', none⟩)) (by exact rfl) rfl (by kernel_rfl) (by kernel_rfl) (by kernel_rfl) (fun _ _ _ h => h) (Or.inl ⟨by rfl, ?_⟩) (by assumption) ?_
          · intro wq hS
            go_simp
          try simp only [Act.put, List.setIfInBounds_toArray, List.set_cons_zero, List.set_cons_succ]
          clear hHeld
          refine wpAnyH_ready (rs := [17]) (by kernel_rfl) (by simp) ?_
          refine AllReadyH.cons (by exact rfl) (fun K hK => ?_) AllReadyH.nil
          go_simp
          refine hK.out _ _ trivial (fun hHeld => ?_)
          clear hK K hHeld
          try simp only [Act.put, List.setIfInBounds_toArray, List.set_cons_zero, List.set_cons_succ]
          refine wpAnyH_done (by kernel_rfl) ?_ _
          refine NoPanic.normal ?_
          have V8 := (HV7.out.set k (.int .i64 ((rot f a (a + 1) (k + 1)) k' : Int))).set k' (.int .i64 ((rot f a (a + 1) (k + 1)) k : Int))
          have U8 := HU7.out.trans ((Qx.of_upd (upd_set w7 q k (.int .i64 ((rot f a (a + 1) (k + 1)) k' : Int)))).trans (Qx.of_upd (upd_set _ q k' (.int .i64 ((rot f a (a + 1) (k + 1)) k : Int)))))
          rw [row_swp (rot f a (a + 1) (k + 1)) HXN.out HYN.out] at V8
          have HV8 := (show Hid _ from V8)
          have HU8 := (show Hid _ from U8)
          clear V8 U8 cX cY fX fY cY2 HV7 HU7
          generalize (w7.setCell ⟨q, k, none⟩ (.int .i64 ((rot f a (a + 1) (k + 1)) k' : Int))).setCell ⟨q, k', none⟩ (.int .i64 ((rot f a (a + 1) (k + 1)) k : Int)) = w8 at *
          have e9 := HK1.out
          go_wp2_with fail
          refine ⟨⟨k', by have := HKE.out; omega, by have := HKE.out; omega, by first | rfl | go_num, ?_, HU8.out⟩, by simp [intOf]; omega⟩
          have v8 := HV8.out
          rw [HKE.out, rot_up f hk1] at v8
          rw [HKE.out]
          exact v8
    have d1 : (i : Int) < (j : Int) := by omega
    obtain ⟨h, hh⟩ : ∃ h : Nat, (((i : Nat) : Int) + ((j : Nat) : Int)) / 2 = (h : Int) := ⟨(i + j) / 2, by omega⟩
    have hh1 : i ≤ h := by omega
    have hh2 : h < j := by omega
    have HH := (show Hid _ from hh)
    clear hh
    have HHN : Hid (h < n) := by show h < n; omega
    have g1 : (0 : Int) ≤ (h : Int) := by omega
    have g2 : (h : Int) < (n : Int) := by omega
    have g3 : (0 : Int) ≤ (a : Int) := by omega
    have g4 : (a : Int) < (n : Int) := by omega
    go_upto_region 5 with fail
    rw [HH.out]
    refine wp_region_noPanic ?_
    refine wp_region_held_drew (S := fun w' => VA w' q (row f n) 3 ∧ Below wr.heap.size wr w') (by kernel_rfl) ⟨HV.out.drew, (Below.refl _ _).drew⟩ (fun hHeld => ?_)
    refine takeD 0 40 (.func (.func 44) #[] #[.pointer (some ⟨bx, 0, none⟩)]) (by exact rfl) rfl (by kernel_rfl) (by kernel_rfl) (by kernel_rfl) (fun _ _ _ h => h) (Or.inl ⟨by rfl, ?_⟩) (by assumption) ?_
    · intro wq hS
      go_simp
    try simp only [Act.put, List.setIfInBounds_toArray, List.set_cons_zero, List.set_cons_succ]
    refine takeD 1 41 (.slice (some ⟨q, 0, none⟩) n n) (by exact rfl) rfl (by kernel_rfl) (by kernel_rfl) (by kernel_rfl) (fun _ _ _ h => h) (Or.inl ⟨by rfl, ?_⟩) (by assumption) ?_
    · intro wq hS
      go_simp
    try simp only [Act.put, List.setIfInBounds_toArray, List.set_cons_zero, List.set_cons_succ]
    refine takeD 2 42 (.int .i64 (h : Int)) (by exact rfl) rfl (by kernel_rfl) (by kernel_rfl) (by kernel_rfl) (fun _ _ _ h => h) (Or.inl ⟨by rfl, ?_⟩) (by assumption) ?_
    · intro wq hS
      go_simp
    try simp only [Act.put, List.setIfInBounds_toArray, List.set_cons_zero, List.set_cons_succ]
    refine takeD 3 43 (.pointer (some ⟨q, h, none⟩)) (by exact rfl) rfl (by kernel_rfl) (by kernel_rfl) (by kernel_rfl) (fun _ _ _ h => h) (Or.inl ⟨by rfl, ?_⟩) (by assumption) ?_
    · intro wq hS
      go_simp
    try simp only [Act.put, List.setIfInBounds_toArray, List.set_cons_zero, List.set_cons_succ]
    refine takeD 4 44 (.int .i64 (f h : Int)) (by exact rfl) rfl (by kernel_rfl) (by kernel_rfl) (by kernel_rfl) (fun _ _ _ h => h) (Or.inl ⟨by rfl, ?_⟩) (by assumption) ?_
    · intro wq hS
      have h0 := hS.1.cell h (row_get f HHN.out)
      go_simp
    try simp only [Act.put, List.setIfInBounds_toArray, List.set_cons_zero, List.set_cons_succ]
    refine takeD 5 45 (.slice (some ⟨q, 0, none⟩) n n) (by exact rfl) rfl (by kernel_rfl) (by kernel_rfl) (by kernel_rfl) (fun _ _ _ h => h) (Or.inl ⟨by rfl, ?_⟩) (by assumption) ?_
    · intro wq hS
      go_simp
    try simp only [Act.put, List.setIfInBounds_toArray, List.set_cons_zero, List.set_cons_succ]
    refine takeD 6 46 (.int .i64 (a : Int)) (by exact rfl) rfl (by kernel_rfl) (by kernel_rfl) (by kernel_rfl) (fun _ _ _ h => h) (Or.inl ⟨by rfl, ?_⟩) (by assumption) ?_
    · intro wq hS
      go_simp
    try simp only [Act.put, List.setIfInBounds_toArray, List.set_cons_zero, List.set_cons_succ]
    refine takeD 7 47 (.pointer (some ⟨q, a, none⟩)) (by exact rfl) rfl (by kernel_rfl) (by kernel_rfl) (by kernel_rfl) (fun _ _ _ h => h) (Or.inl ⟨by rfl, ?_⟩) (by assumption) ?_
    · intro wq hS
      go_simp
    try simp only [Act.put, List.setIfInBounds_toArray, List.set_cons_zero, List.set_cons_succ]
    refine takeD 8 48 (.int .i64 (f a : Int)) (by exact rfl) rfl (by kernel_rfl) (by kernel_rfl) (by kernel_rfl) (fun _ _ _ h => h) (Or.inl ⟨by rfl, ?_⟩) (by assumption) ?_
    · intro wq hS
      have h0 := hS.1.cell a (row_get f HAN.out)
      go_simp
    try simp only [Act.put, List.setIfInBounds_toArray, List.set_cons_zero, List.set_cons_succ]
    refine wpAnyH_ready (rs := [9]) (by kernel_rfl) (by simp) ?_
    refine AllReadyH.cons (by exact rfl) (fun K hK => ?_) AllReadyH.nil
    go_simp
    refine (HKC.out.call (f h) (f a) _ (HBF.out _ HHN.out) (HBF.out _ HAN.out) (HKC.out.keep _ _ HC.out (HU.out.trans (Qx.of_bel hHeld.2)))).mono ?_
    rintro e w1 ⟨⟨z, rfl, hz⟩, b1⟩
    have hH2 := (show VA w1 q _ _ ∧ Below wr.heap.size wr w1 from ⟨hHeld.1.step b1, hHeld.2.trans (b1.mono hHeld.2.size)⟩)
    clear hHeld b1
    go_wp2_with fail
    refine hK.out _ _ hH2 (fun hHeld => ?_)
    clear hH2
    try simp only [Act.put, List.setIfInBounds_toArray, List.set_cons_zero, List.set_cons_succ]
    clear hK K
    have HZ := (show Hid _ from hz)
    clear hz
    by_cases hz0 : z < 0
    · refine takeD 10 50 (.bool true) (by exact rfl) rfl (by kernel_rfl) (by kernel_rfl) (by kernel_rfl) (fun _ _ _ h => h) (Or.inl ⟨by rfl, ?_⟩) (by assumption) ?_
      · intro wq hS
        go_simp
      try simp only [Act.put, List.setIfInBounds_toArray, List.set_cons_zero, List.set_cons_succ]
      refine wpAnyH_done (by kernel_rfl) ?_ _
      refine NoPanic.normal ?_
      have HV2 := (show Hid _ from hHeld.1)
      have HU2 := (show Hid _ from HU.out.trans (Qx.of_bel hHeld.2))
      have HZ0 : Hid (R (f a) < R (f h)) := HZ.out.1 hz0
      clear hHeld HZ hz0
      go_wp2_with fail
      refine ⟨⟨h + 1, j, by omega, by omega, hj1, by go_num, rfl, ?_, HUp.out, HV2.out, HU2.out⟩, by simp [intOf]; omega⟩
      exact up_below HS2.out (by omega) (Or.inl HZ0.out)
    · refine takeD 10 50 (.bool false) (by exact rfl) rfl (by kernel_rfl) (by kernel_rfl) (by kernel_rfl) (fun _ _ _ h => h) (Or.inl ⟨by rfl, ?_⟩) (by assumption) ?_
      · intro wq hS
        go_simp
      try simp only [Act.put, List.setIfInBounds_toArray, List.set_cons_zero, List.set_cons_succ]
      refine wpAnyH_done (by kernel_rfl) ?_ _
      refine NoPanic.normal ?_
      have HV2 := (show Hid _ from hHeld.1)
      have HU2 := (show Hid _ from HU.out.trans (Qx.of_bel hHeld.2))
      have HZ0 : Hid (¬ R (f a) < R (f h)) := fun hq => hz0 (HZ.out.2 hq)
      clear hHeld HZ hz0
      go_wp2_with fail
      refine ⟨⟨i, h, hi1, by omega, by omega, rfl, rfl, HLo.out, ?_, HV2.out, HU2.out⟩, by simp [intOf]; omega⟩
      exact dn_above HS2.out (by omega) (bf_stay (HL.out a h (Nat.le_refl _) h1 (by omega) (by omega)) HZ0.out)
set_option maxHeartbeats 8000000 in
set_option maxRecDepth 100000 in
theorem sym_right (q n bx a m b : Nat) (R f : Nat → Nat) (C : World → Prop) (KC : Cmpr q n bx R C) (w : World) (V : VA w q (row f n) 3) (hC : C w) (h1 : a < m) (h2 : m < b) (h4 : b ≤ n) (h3 : n ≤ 1000000) (B : ∀ x, x < n → f x < n) (S1 : Srt R f a m) (S2 : Srt R f m b) (L : ∀ x y, a ≤ x → x < m → m ≤ y → y < b → f x < f y) (hm : m ≠ a + 1) (hb : b = m + 1) :
    Calls Tryd.prog 56 #[.slice (some ⟨q, 0, none⟩) n n, .int .i64 (a : Int), .int .i64 (m : Int), .int .i64 (b : Int), .func (.func 44) #[] #[.pointer (some ⟨bx, 0, none⟩)]] w fun e w' => e = .returned (.tuple #[]) ∧ ∃ g, VA w' q (row g n) 3 ∧ Pm f g a b ∧ Srt R g a b ∧ Qx q w w' := by
  have HV0 := (show Hid _ from V)
  have HKC := (show Hid _ from KC)
  have HC := (show Hid _ from hC)
  have HBF := (show Hid _ from B)
  have HS1 := (show Hid _ from S1)
  have HS2 := (show Hid _ from S2)
  have HL := (show Hid _ from L)
  clear V KC hC B S1 S2 L
  have e0 : (((m : Int) - (a : Int)) == 1) = false := by simp; omega
  have e1 : (b : Int) - (m : Int) = 1 := by omega
  have HM := (show Hid _ from hb)
  have HMN : Hid (m < n) := by show m < n; omega
  clear hm hb
  go_enter Tryd.func56, Tryd.ntmps56
  go_wp2_with fail
  go_loopw [14, 15] (fun s14 s15 wr => ∃ (i j : Nat), a ≤ i ∧ i ≤ j ∧ j ≤ m ∧ s14 = .int .i64 (i : Int) ∧ s15 = .int .i64 (j : Int) ∧ Hid (∀ x, a ≤ x → x < i → bf R (f x) (f m)) ∧ Hid (∀ x, j ≤ x → x < m → bf R (f m) (f x)) ∧ Hid (VA wr q (row f n) 3) ∧ Hid (Qx q w wr)) (fun s14 s15 _ => (intOf s15).toNat - (intOf s14).toNat)
  case atStart => exact ⟨a, m, by omega, by omega, by omega, by go_num, rfl, fun x _ _ => by omega, fun x _ _ => by omega, HV0.out, Qx.refl _ _⟩
  case round =>
    obtain ⟨i, j, hi1, hij, hj1, rfl, rfl, HLo, HUp, HV, HU⟩ := hrel
    clear HV0
    by_cases hji : (j : Int) ≤ (i : Int)
    · obtain rfl : i = j := by omega
      clear hji
      go_wp2_with fail
      go_loopw [17] (fun s17 wr => ∃ k : Nat, i ≤ k ∧ k ≤ m ∧ s17 = .int .i64 (k : Int) ∧ Hid (VA wr q (row (rot f k m (m + 1)) n) 3) ∧ Hid (Qx q w wr)) (fun s17 _ => (intOf s17).toNat)
      case atStart => exact ⟨m, by omega, by omega, rfl, by rw [rot_none1]; exact HV.out, HU.out⟩
      case round =>
        obtain ⟨k, hk1, hk2, rfl, HV', HU'⟩ := hrel
        clear HV HU
        have HV := HV'
        have HU := HU'
        clear HV' HU'
        by_cases hki : (k : Int) ≤ (i : Int)
        · go_wp2_with fail
          refine bodyPost_ret (v := .tuple #[]) (by simp [results, Tryd.results56, go_sem]) rfl ⟨rfl, rot f i m b, ?_, ?_, ?_, HU.out⟩
          · have := HV.out; rwa [show k = i by omega, ← HM.out] at this
          · exact (rot_pm f (by omega) (by omega)).wide (by omega) (Nat.le_refl _)
          · have := HM.out
            refine rot_srt hi1 (by omega) (by omega) (Nat.le_refl _) HS1.out HS2.out ?_ ?_ ?_ ?_
            · intro x y x1 x2 y1 y2; rw [show y = m by omega]; exact HLo.out x x1 x2
            · intro x y x1 x2 y1 y2; rw [show x = m by omega]; exact HUp.out y y1 y2
            · intro x y x1 x2 y1 y2; omega
            · intro x y x1 x2 y1 y2; omega
        have d7 : (i : Int) < (k : Int) := by omega
        obtain ⟨k', hk'⟩ : ∃ k' : Nat, k = k' + 1 := ⟨k - 1, by omega⟩
        have HKE := (show Hid _ from hk')
        have HK1 : Hid ((k : Int) - 1 = (k' : Int)) := by show _ = _; omega
        have HXN : Hid (k < n) := by show k < n; omega
        have HYN : Hid (k' < n) := by show k' < n; omega
        have HXY : Hid (¬ k = k') := by show ¬ k = k'; omega
        have x1 : (0 : Int) ≤ (k : Int) := by omega
        have x2 : (k : Int) < (n : Int) := by omega
        have y1 : (0 : Int) ≤ (k' : Int) := by omega
        have y2 : (k' : Int) < (n : Int) := by omega
        clear hk'
        go_upto_region 23 with fail
        refine wp_region_noPanic ?_
        refine wp_region_held_drew (S := fun w' => True) (by kernel_rfl) trivial (fun hHeld => ?_)
        refine takeD 0 113 (.slice (some ⟨q, 0, none⟩) n n) (by exact rfl) rfl (by kernel_rfl) (by kernel_rfl) (by kernel_rfl) (fun _ _ _ h => h) (Or.inl ⟨by rfl, ?_⟩) (by assumption) ?_
        · intro wq hS
          go_simp
        try simp only [Act.put, List.setIfInBounds_toArray, List.set_cons_zero, List.set_cons_succ]
        refine takeD 1 114 (.int .i64 (k : Int)) (by exact rfl) rfl (by kernel_rfl) (by kernel_rfl) (by kernel_rfl) (fun _ _ _ h => h) (Or.inl ⟨by rfl, ?_⟩) (by assumption) ?_
        · intro wq hS
          go_simp
        try simp only [Act.put, List.setIfInBounds_toArray, List.set_cons_zero, List.set_cons_succ]
        refine takeD 2 115 (.slice (some ⟨q, 0, none⟩) n n) (by exact rfl) rfl (by kernel_rfl) (by kernel_rfl) (by kernel_rfl) (fun _ _ _ h => h) (Or.inl ⟨by rfl, ?_⟩) (by assumption) ?_
        · intro wq hS
          go_simp
        try simp only [Act.put, List.setIfInBounds_toArray, List.set_cons_zero, List.set_cons_succ]
        refine takeD 3 116 (.int .i64 (k : Int)) (by exact rfl) rfl (by kernel_rfl) (by kernel_rfl) (by kernel_rfl) (fun _ _ _ h => h) (Or.inl ⟨by rfl, ?_⟩) (by assumption) ?_
        · intro wq hS
          go_simp
        try simp only [Act.put, List.setIfInBounds_toArray, List.set_cons_zero, List.set_cons_succ]
        refine takeD 4 117 (.int .i64 (k' : Int)) (by exact rfl) rfl (by kernel_rfl) (by kernel_rfl) (by kernel_rfl) (fun _ _ _ h => h) (Or.inl ⟨by rfl, ?_⟩) (by assumption) ?_
        · intro wq hS
          have q3 := HK1.out
          go_simp
          rw [IntKind.wrap_i64]; omega
        try simp only [Act.put, List.setIfInBounds_toArray, List.set_cons_zero, List.set_cons_succ]
        refine takeD 5 118 (.slice (some ⟨q, 0, none⟩) n n) (by exact rfl) rfl (by kernel_rfl) (by kernel_rfl) (by kernel_rfl) (fun _ _ _ h => h) (Or.inl ⟨by rfl, ?_⟩) (by assumption) ?_
        · intro wq hS
          go_simp
        try simp only [Act.put, List.setIfInBounds_toArray, List.set_cons_zero, List.set_cons_succ]
        refine takeD 6 119 (.int .i64 (k : Int)) (by exact rfl) rfl (by kernel_rfl) (by kernel_rfl) (by kernel_rfl) (fun _ _ _ h => h) (Or.inl ⟨by rfl, ?_⟩) (by assumption) ?_
        · intro wq hS
          go_simp
        try simp only [Act.put, List.setIfInBounds_toArray, List.set_cons_zero, List.set_cons_succ]
        refine takeD 7 120 (.int .i64 (k' : Int)) (by exact rfl) rfl (by kernel_rfl) (by kernel_rfl) (by kernel_rfl) (fun _ _ _ h => h) (Or.inl ⟨by rfl, ?_⟩) (by assumption) ?_
        · intro wq hS
          have q3 := HK1.out
          go_simp
          rw [IntKind.wrap_i64]; omega
        try simp only [Act.put, List.setIfInBounds_toArray, List.set_cons_zero, List.set_cons_succ]
        refine takeD 8 121 (.pointer (some ⟨q, k', none⟩)) (by exact rfl) rfl (by kernel_rfl) (by kernel_rfl) (by kernel_rfl) (fun _ _ _ h => h) (Or.inl ⟨by rfl, ?_⟩) (by assumption) ?_
        · intro wq hS
          go_simp
        try simp only [Act.put, List.setIfInBounds_toArray, List.set_cons_zero, List.set_cons_succ]
        refine takeD 10 123 (.slice (some ⟨q, 0, none⟩) n n) (by exact rfl) rfl (by kernel_rfl) (by kernel_rfl) (by kernel_rfl) (fun _ _ _ h => h) (Or.inl ⟨by rfl, ?_⟩) (by assumption) ?_
        · intro wq hS
          go_simp
        try simp only [Act.put, List.setIfInBounds_toArray, List.set_cons_zero, List.set_cons_succ]
        refine takeD 11 124 (.int .i64 (k : Int)) (by exact rfl) rfl (by kernel_rfl) (by kernel_rfl) (by kernel_rfl) (fun _ _ _ h => h) (Or.inl ⟨by rfl, ?_⟩) (by assumption) ?_
        · intro wq hS
          go_simp
        try simp only [Act.put, List.setIfInBounds_toArray, List.set_cons_zero, List.set_cons_succ]
        refine takeD 12 125 (.pointer (some ⟨q, k, none⟩)) (by exact rfl) rfl (by kernel_rfl) (by kernel_rfl) (by kernel_rfl) (fun _ _ _ h => h) (Or.inl ⟨by rfl, ?_⟩) (by assumption) ?_
        · intro wq hS
          go_simp
        try simp only [Act.put, List.setIfInBounds_toArray, List.set_cons_zero, List.set_cons_succ]
        have V7 : VA wr.drew q (row (rot f k m (m + 1)) n) 3 := HV.out.drew
        have U7 : Qx q w wr.drew := HU.out.trans (Qx.of_bel (Below.refl _ _).drew)
        generalize wr.drew = w7 at *
        clear hHeld HV HU
        have cX := V7.cell k (row_get (rot f k m (m + 1)) HXN.out)
        have cY := V7.cell k' (row_get (rot f k m (m + 1)) HYN.out)
        have fX := V7.free k
        have fY := (V7.set k (.int .i64 ((rot f k m (m + 1)) k' : Int))).free k'
        have cY2 := (V7.set k (.int .i64 ((rot f k m (m + 1)) k' : Int))).cell k' (v := .int .i64 ((rot f k m (m + 1)) k' : Int)) (by rw [List.getElem?_set, if_neg HXY.out]; exact row_get (rot f k m (m + 1)) HYN.out)
        have HV7 := (show Hid _ from V7)
        have HU7 := (show Hid _ from U7)
        clear V7 U7
        refine wpAnyH_ready (rs := [9, 13]) (by kernel_rfl) (by simp) ?_
        refine AllReadyH.cons (by exact rfl) (fun K hK => ?_) (AllReadyH.cons (by exact rfl) (fun K hK => ?_) AllReadyH.nil)
        · go_simp
          refine hK.out _ _ trivial (fun hHeld => ?_)
          clear hK K hHeld
          try simp only [Act.put, List.setIfInBounds_toArray, List.set_cons_zero, List.set_cons_succ]
          refine wpAnyH_ready (rs := [13]) (by kernel_rfl) (by simp) ?_
          refine AllReadyH.cons (by exact rfl) (fun K hK => ?_) AllReadyH.nil
          go_simp
          refine hK.out _ _ trivial (fun hHeld => ?_)
          clear hK K hHeld
          try simp only [Act.put, List.setIfInBounds_toArray, List.set_cons_zero, List.set_cons_succ]
          have hHeld : True := trivial
          refine takeD 14 127 (.pointer (some ⟨q, k, none⟩)) (by exact rfl) rfl (by kernel_rfl) (by kernel_rfl) (by kernel_rfl) (fun _ _ _ h => h) (Or.inl ⟨by rfl, ?_⟩) (by assumption) ?_
          · intro wq hS
            go_simp
          try simp only [Act.put, List.setIfInBounds_toArray, List.set_cons_zero, List.set_cons_succ]
          clear hHeld
          refine wpAnyH_ready (rs := [15]) (by kernel_rfl) (by simp) ?_
          refine AllReadyH.cons (by exact rfl) (fun K hK => ?_) AllReadyH.nil
          go_simp
          refine hK.out _ _ trivial (fun hHeld => ?_)
          clear hK K hHeld
          try simp only [Act.put, List.setIfInBounds_toArray, List.set_cons_zero, List.set_cons_succ]
          have hHeld : True := trivial
          refine takeD 16 128 (.pointer (some ⟨q, k', none⟩)) (by exact rfl) rfl (by kernel_rfl) (by kernel_rfl) (by kernel_rfl) (fun _ _ _ h => h) (Or.inl ⟨by rfl, ?_⟩) (by assumption) ?_
          · intro wq hS
            go_simp
          try simp only [Act.put, List.setIfInBounds_toArray, List.set_cons_zero, List.set_cons_succ]
          clear hHeld
          refine wpAnyH_ready (rs := [17]) (by kernel_rfl) (by simp) ?_
          refine AllReadyH.cons (by exact rfl) (fun K hK => ?_) AllReadyH.nil
          go_simp
          refine hK.out _ _ trivial (fun hHeld => ?_)
          clear hK K hHeld
          try simp only [Act.put, List.setIfInBounds_toArray, List.set_cons_zero, List.set_cons_succ]
          refine wpAnyH_done (by kernel_rfl) ?_ _
          refine NoPanic.normal ?_
          have V8 := (HV7.out.set k (.int .i64 ((rot f k m (m + 1)) k' : Int))).set k' (.int .i64 ((rot f k m (m + 1)) k : Int))
          have U8 := HU7.out.trans ((Qx.of_upd (upd_set w7 q k (.int .i64 ((rot f k m (m + 1)) k' : Int)))).trans (Qx.of_upd (upd_set _ q k' (.int .i64 ((rot f k m (m + 1)) k : Int)))))
          rw [row_swp (rot f k m (m + 1)) HXN.out HYN.out] at V8
          have HV8 := (show Hid _ from V8)
          have HU8 := (show Hid _ from U8)
          clear V8 U8 cX cY fX fY cY2 HV7 HU7
          generalize (w7.setCell ⟨q, k, none⟩ (.int .i64 ((rot f k m (m + 1)) k' : Int))).setCell ⟨q, k', none⟩ (.int .i64 ((rot f k m (m + 1)) k : Int)) = w8 at *
          have e9 := HK1.out
          go_wp2_with fail
          refine ⟨⟨k', by have := HKE.out; omega, by have := HKE.out; omega, by first | rfl | go_num, ?_, HU8.out⟩, by simp [intOf]; omega⟩
          have v8 := HV8.out
          rw [HKE.out, rot_down f (by have := HKE.out; omega)] at v8
          exact v8
        · go_simp
          refine hK.out _ _ trivial (fun hHeld => ?_)
          clear hK K hHeld
          try simp only [Act.put, List.setIfInBounds_toArray, List.set_cons_zero, List.set_cons_succ]
          refine wpAnyH_ready (rs := [9]) (by kernel_rfl) (by simp) ?_
          refine AllReadyH.cons (by exact rfl) (fun K hK => ?_) AllReadyH.nil
          go_simp
          refine hK.out _ _ trivial (fun hHeld => ?_)
          clear hK K hHeld
          try simp only [Act.put, List.setIfInBounds_toArray, List.set_cons_zero, List.set_cons_succ]
          have hHeld : True := trivial
          refine takeD 14 127 (.pointer (some ⟨q, k, none⟩)) (by exact rfl) rfl (by kernel_rfl) (by kernel_rfl) (by kernel_rfl) (fun _ _ _ h => h) (Or.inl ⟨by rfl, ?_⟩) (by assumption) ?_
          · intro wq hS
            go_simp
          try simp only [Act.put, List.setIfInBounds_toArray, List.set_cons_zero, List.set_cons_succ]
          clear hHeld
          refine wpAnyH_ready (rs := [15]) (by kernel_rfl) (by simp) ?_
          refine AllReadyH.cons (by exact rfl) (fun K hK => ?_) AllReadyH.nil
          go_simp
          refine hK.out _ _ trivial (fun hHeld => ?_)
          clear hK K hHeld
          try simp only [Act.put, List.setIfInBounds_toArray, List.set_cons_zero, List.set_cons_succ]
          have hHeld : True := trivial
          refine takeD 16 128 (.pointer (some ⟨q, k', none⟩)) (by exact rfl) rfl (by kernel_rfl) (by kernel_rfl) (by kernel_rfl) (fun _ _ _ h => h) (Or.inl ⟨by rfl, ?_⟩) (by assumption) ?_
          · intro wq hS
            go_simp
          try simp only [Act.put, List.setIfInBounds_toArray, List.set_cons_zero, List.set_cons_succ]
          clear hHeld
          refine wpAnyH_ready (rs := [17]) (by kernel_rfl) (by simp) ?_
          refine AllReadyH.cons (by exact rfl) (fun K hK => ?_) AllReadyH.nil
          go_simp
          refine hK.out _ _ trivial (fun hHeld => ?_)
          clear hK K hHeld
          try simp only [Act.put, List.setIfInBounds_toArray, List.set_cons_zero, List.set_cons_succ]
          refine wpAnyH_done (by kernel_rfl) ?_ _
          refine NoPanic.normal ?_
          have V8 := (HV7.out.set k (.int .i64 ((rot f k m (m + 1)) k' : Int))).set k' (.int .i64 ((rot f k m (m + 1)) k : Int))
          have U8 := HU7.out.trans ((Qx.of_upd (upd_set w7 q k (.int .i64 ((rot f k m (m + 1)) k' : Int)))).trans (Qx.of_upd (upd_set _ q k' (.int .i64 ((rot f k m (m + 1)) k : Int)))))
          rw [row_swp (rot f k m (m + 1)) HXN.out HYN.out] at V8
          have HV8 := (show Hid _ from V8)
          have HU8 := (show Hid _ from U8)
          clear V8 U8 cX cY fX fY cY2 HV7 HU7
          generalize (w7.setCell ⟨q, k, none⟩ (.int .i64 ((rot f k m (m + 1)) k' : Int))).setCell ⟨q, k', none⟩ (.int .i64 ((rot f k m (m + 1)) k : Int)) = w8 at *
          have e9 := HK1.out
          go_wp2_with fail
          refine ⟨⟨k', by have := HKE.out; omega, by have := HKE.out; omega, by first | rfl | go_num, ?_, HU8.out⟩, by simp [intOf]; omega⟩
          have v8 := HV8.out
          rw [HKE.out, rot_down f (by have := HKE.out; omega)] at v8
          exact v8
    have d1 : (i : Int) < (j : Int) := by omega
    obtain ⟨h, hh⟩ : ∃ h : Nat, (((i : Nat) : Int) + ((j : Nat) : Int)) / 2 = (h : Int) := ⟨(i + j) / 2, by omega⟩
    have hh1 : i ≤ h := by omega
    have hh2 : h < j := by omega
    have HH := (show Hid _ from hh)
    clear hh
    have HHN : Hid (h < n) := by show h < n; omega
    have g1 : (0 : Int) ≤ (h : Int) := by omega
    have g2 : (h : Int) < (n : Int) := by omega
    have g3 : (0 : Int) ≤ (m : Int) := by omega
    have g4 : (m : Int) < (n : Int) := by omega
    go_upto_region 17 with fail
    rw [HH.out]
    refine wp_region_noPanic ?_
    refine wp_region_held_drew (S := fun w' => VA w' q (row f n) 3 ∧ Below wr.heap.size wr w') (by kernel_rfl) ⟨HV.out.drew, (Below.refl _ _).drew⟩ (fun hHeld => ?_)
    refine takeD 0 92 (.func (.func 44) #[] #[.pointer (some ⟨bx, 0, none⟩)]) (by exact rfl) rfl (by kernel_rfl) (by kernel_rfl) (by kernel_rfl) (fun _ _ _ h => h) (Or.inl ⟨by rfl, ?_⟩) (by assumption) ?_
    · intro wq hS
      go_simp
    try simp only [Act.put, List.setIfInBounds_toArray, List.set_cons_zero, List.set_cons_succ]
    refine takeD 1 93 (.slice (some ⟨q, 0, none⟩) n n) (by exact rfl) rfl (by kernel_rfl) (by kernel_rfl) (by kernel_rfl) (fun _ _ _ h => h) (Or.inl ⟨by rfl, ?_⟩) (by assumption) ?_
    · intro wq hS
      go_simp
    try simp only [Act.put, List.setIfInBounds_toArray, List.set_cons_zero, List.set_cons_succ]
    refine takeD 2 94 (.int .i64 (m : Int)) (by exact rfl) rfl (by kernel_rfl) (by kernel_rfl) (by kernel_rfl) (fun _ _ _ h => h) (Or.inl ⟨by rfl, ?_⟩) (by assumption) ?_
    · intro wq hS
      go_simp
    try simp only [Act.put, List.setIfInBounds_toArray, List.set_cons_zero, List.set_cons_succ]
    refine takeD 3 95 (.pointer (some ⟨q, m, none⟩)) (by exact rfl) rfl (by kernel_rfl) (by kernel_rfl) (by kernel_rfl) (fun _ _ _ h => h) (Or.inl ⟨by rfl, ?_⟩) (by assumption) ?_
    · intro wq hS
      go_simp
    try simp only [Act.put, List.setIfInBounds_toArray, List.set_cons_zero, List.set_cons_succ]
    refine takeD 4 96 (.int .i64 (f m : Int)) (by exact rfl) rfl (by kernel_rfl) (by kernel_rfl) (by kernel_rfl) (fun _ _ _ h => h) (Or.inl ⟨by rfl, ?_⟩) (by assumption) ?_
    · intro wq hS
      have h0 := hS.1.cell m (row_get f HMN.out)
      go_simp
    try simp only [Act.put, List.setIfInBounds_toArray, List.set_cons_zero, List.set_cons_succ]
    refine takeD 5 97 (.slice (some ⟨q, 0, none⟩) n n) (by exact rfl) rfl (by kernel_rfl) (by kernel_rfl) (by kernel_rfl) (fun _ _ _ h => h) (Or.inl ⟨by rfl, ?_⟩) (by assumption) ?_
    · intro wq hS
      go_simp
    try simp only [Act.put, List.setIfInBounds_toArray, List.set_cons_zero, List.set_cons_succ]
    refine takeD 6 98 (.int .i64 (h : Int)) (by exact rfl) rfl (by kernel_rfl) (by kernel_rfl) (by kernel_rfl) (fun _ _ _ h => h) (Or.inl ⟨by rfl, ?_⟩) (by assumption) ?_
    · intro wq hS
      go_simp
    try simp only [Act.put, List.setIfInBounds_toArray, List.set_cons_zero, List.set_cons_succ]
    refine takeD 7 99 (.pointer (some ⟨q, h, none⟩)) (by exact rfl) rfl (by kernel_rfl) (by kernel_rfl) (by kernel_rfl) (fun _ _ _ h => h) (Or.inl ⟨by rfl, ?_⟩) (by assumption) ?_
    · intro wq hS
      go_simp
    try simp only [Act.put, List.setIfInBounds_toArray, List.set_cons_zero, List.set_cons_succ]
    refine takeD 8 100 (.int .i64 (f h : Int)) (by exact rfl) rfl (by kernel_rfl) (by kernel_rfl) (by kernel_rfl) (fun _ _ _ h => h) (Or.inl ⟨by rfl, ?_⟩) (by assumption) ?_
    · intro wq hS
      have h0 := hS.1.cell h (row_get f HHN.out)
      go_simp
    try simp only [Act.put, List.setIfInBounds_toArray, List.set_cons_zero, List.set_cons_succ]
    refine wpAnyH_ready (rs := [9]) (by kernel_rfl) (by simp) ?_
    refine AllReadyH.cons (by exact rfl) (fun K hK => ?_) AllReadyH.nil
    go_simp
    refine (HKC.out.call (f m) (f h) _ (HBF.out _ HMN.out) (HBF.out _ HHN.out) (HKC.out.keep _ _ HC.out (HU.out.trans (Qx.of_bel hHeld.2)))).mono ?_
    rintro e w1 ⟨⟨z, rfl, hz⟩, b1⟩
    have hH2 := (show VA w1 q _ _ ∧ Below wr.heap.size wr w1 from ⟨hHeld.1.step b1, hHeld.2.trans (b1.mono hHeld.2.size)⟩)
    clear hHeld b1
    go_wp2_with fail
    refine hK.out _ _ hH2 (fun hHeld => ?_)
    clear hH2
    try simp only [Act.put, List.setIfInBounds_toArray, List.set_cons_zero, List.set_cons_succ]
    clear hK K
    have HZ := (show Hid _ from hz)
    clear hz
    by_cases hz0 : z < 0
    · refine takeD 10 102 (.bool true) (by exact rfl) rfl (by kernel_rfl) (by kernel_rfl) (by kernel_rfl) (fun _ _ _ h => h) (Or.inl ⟨by rfl, ?_⟩) (by assumption) ?_
      · intro wq hS
        go_simp
      try simp only [Act.put, List.setIfInBounds_toArray, List.set_cons_zero, List.set_cons_succ]
      refine takeD 11 103 (.bool false) (by exact rfl) rfl (by kernel_rfl) (by kernel_rfl) (by kernel_rfl) (fun _ _ _ h => h) (Or.inl ⟨by rfl, ?_⟩) (by assumption) ?_
      · intro wq hS
        go_simp
      try simp only [Act.put, List.setIfInBounds_toArray, List.set_cons_zero, List.set_cons_succ]
      refine wpAnyH_done (by kernel_rfl) ?_ _
      refine NoPanic.normal ?_
      have HV2 := (show Hid _ from hHeld.1)
      have HU2 := (show Hid _ from HU.out.trans (Qx.of_bel hHeld.2))
      have HZ0 : Hid (R (f h) < R (f m)) := HZ.out.1 hz0
      clear hHeld HZ hz0
      go_wp2_with fail
      refine ⟨⟨i, h, hi1, by omega, by omega, rfl, rfl, HLo.out, ?_, HV2.out, HU2.out⟩, by simp [intOf]; omega⟩
      exact dn_above HS1.out (by omega) (Or.inl HZ0.out)
    · refine takeD 10 102 (.bool false) (by exact rfl) rfl (by kernel_rfl) (by kernel_rfl) (by kernel_rfl) (fun _ _ _ h => h) (Or.inl ⟨by rfl, ?_⟩) (by assumption) ?_
      · intro wq hS
        go_simp
      try simp only [Act.put, List.setIfInBounds_toArray, List.set_cons_zero, List.set_cons_succ]
      refine takeD 11 103 (.bool true) (by exact rfl) rfl (by kernel_rfl) (by kernel_rfl) (by kernel_rfl) (fun _ _ _ h => h) (Or.inl ⟨by rfl, ?_⟩) (by assumption) ?_
      · intro wq hS
        go_simp
      try simp only [Act.put, List.setIfInBounds_toArray, List.set_cons_zero, List.set_cons_succ]
      refine wpAnyH_done (by kernel_rfl) ?_ _
      refine NoPanic.normal ?_
      have HV2 := (show Hid _ from hHeld.1)
      have HU2 := (show Hid _ from HU.out.trans (Qx.of_bel hHeld.2))
      have HZ0 : Hid (¬ R (f h) < R (f m)) := fun hq => hz0 (HZ.out.2 hq)
      clear hHeld HZ hz0
      go_wp2_with fail
      refine ⟨⟨h + 1, j, by omega, by omega, hj1, by go_num, rfl, ?_, HUp.out, HV2.out, HU2.out⟩, by simp [intOf]; omega⟩
      exact up_below HS1.out (by omega) (bf_stay (HL.out h m (by omega) (by omega) (Nat.le_refl _) h2) HZ0.out)
end Go.Proofs.YtbgglghapjfdeaaDoor
