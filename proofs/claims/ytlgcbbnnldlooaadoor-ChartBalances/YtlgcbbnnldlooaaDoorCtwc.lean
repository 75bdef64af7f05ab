/- chart's law: alike. -/
import Derived.Test.YtlgcbbnnldlooaaDoorCtwb
namespace Go.Proofs.YtlgcbbnnldlooaaDoor
open Go.RowKit Go.Maps
set_option linter.unusedVariables false

set_option maxHeartbeats 4000000 in
set_option maxRecDepth 100000 in
theorem alike_ok (p m d : Nat) (b : Int → Int → Int) (n : Int) (w : World) (L : Led w p m b n) (D : DL w d b n) :
    Calls Tryd.prog 14 #[.pointer (some ⟨p, 0, none⟩), .pointer (some ⟨d, 0, none⟩)] w fun e w' => e = .returned (.bool true) ∧ Below w.heap.size w w' := by
  have HL := (show Hid _ from L)
  have HD := (show Hid _ from D)
  clear L D
  go_enter Tryd.func14, Tryd.ntmps14
  go_wp2_with fail
  refine (trial_ok p m b n _ HL.out).mono ?_
  rintro e w1 ⟨⟨v1, rfl, o1⟩, b1⟩
  obtain ⟨ta, tc, rfl, l1, l2⟩ := o1.form
  obtain ⟨t, ht⟩ : ∃ t, t = (trl b 32).length := ⟨_, rfl⟩
  rw [← ht] at l1 o1 ⊢
  have HO := (show Hid _ from o1)
  have HT := (show Hid _ from ht)
  have HB1 := (show Hid _ from b1)
  have HL1 := (show Hid _ from HL.out.step b1)
  have HD1 := (show Hid _ from HD.out.step b1)
  clear o1 b1 ht
  go_upto_region 2 with fail
  refine wp_region_noPanic ?_
  refine wp_region_held_drew (S := fun w' => Below w1.heap.size w1 w') (by kernel_rfl) ((Below.refl w1.heap.size w1).drew) (fun hHeld => ?_)
  refine takeD 0 10 (.slice ta t tc) (by exact rfl) rfl (by kernel_rfl) (by kernel_rfl) (by kernel_rfl) (fun _ _ _ h => h) (Or.inl ⟨by rfl, ?_⟩) (by assumption) ?_
  · intro wq hS
    go_simp
  try simp only [Act.put, List.setIfInBounds_toArray, List.set_cons_zero, List.set_cons_succ]
  refine takeD 1 11 (.pointer (some ⟨d, 0, none⟩)) (by exact rfl) rfl (by kernel_rfl) (by kernel_rfl) (by kernel_rfl) (fun _ _ _ h => h) (Or.inl ⟨by rfl, ?_⟩) (by assumption) ?_
  · intro wq hS
    go_simp
  try simp only [Act.put, List.setIfInBounds_toArray, List.set_cons_zero, List.set_cons_succ]
  clear hHeld
  refine wpAnyH_ready (rs := [2]) (by kernel_rfl) (by simp) ?_
  refine AllReadyH.cons (by exact rfl) (fun K hK => ?_) AllReadyH.nil
  go_simp
  refine (rtrial_ok d b n _ (HD1.out.step (Below.refl _ _).drew)).mono ?_
  rintro e w3 ⟨⟨v3, rfl, o3⟩, b3⟩
  have b3 : Below w1.heap.size w1 w3 := ((Below.refl w1.heap.size w1).drew).trans b3
  have HO3 := (show Hid _ from o3.sl)
  have HP3 := (show Hid _ from HO.out.step b3)
  have HW3 := (show Hid _ from b3)
  clear b3 o3
  go_wp2_with fail
  refine hK.out _ _ HW3.out (fun hHeld => ?_)
  clear hK K hHeld
  try simp only [Act.put, List.setIfInBounds_toArray, List.set_cons_zero, List.set_cons_succ]
  refine wpAnyH_ready (rs := [3]) (by kernel_rfl) (by simp) ?_
  refine AllReadyH.cons (by exact rfl) (fun K hK => ?_) AllReadyH.nil
  go_simp
  refine (same_yes _ _ _ _ HP3.out.sl HO3.out).mono ?_
  rintro e w4 ⟨rfl, b4⟩
  have HW4 := (show Hid _ from HW3.out.trans (b4.mono HW3.out.size))
  clear b4 HW3 HP3 HO3
  go_wp2_with fail
  refine hK.out _ _ HW4.out (fun hHeld => ?_)
  clear hK K
  try simp only [Act.put, List.setIfInBounds_toArray, List.set_cons_zero, List.set_cons_succ]
  refine takeD 4 14 (.bool true) (by exact rfl) rfl (by kernel_rfl) (by kernel_rfl) (by kernel_rfl) (fun _ _ _ h => h) (Or.inl ⟨by rfl, ?_⟩) (by assumption) ?_
  · intro wq hS
    go_simp
  try simp only [Act.put, List.setIfInBounds_toArray, List.set_cons_zero, List.set_cons_succ]
  refine takeD 5 15 (.pointer (some ⟨p, 0, none⟩)) (by exact rfl) rfl (by kernel_rfl) (by kernel_rfl) (by kernel_rfl) (fun _ _ _ h => h) (Or.inl ⟨by rfl, ?_⟩) (by assumption) ?_
  · intro wq hS
    go_simp
  try simp only [Act.put, List.setIfInBounds_toArray, List.set_cons_zero, List.set_cons_succ]
  refine takeD 7 17 (.pointer (some ⟨d, 0, none⟩)) (by exact rfl) rfl (by kernel_rfl) (by kernel_rfl) (by kernel_rfl) (fun _ _ _ h => h) (Or.inl ⟨by rfl, ?_⟩) (by assumption) ?_
  · intro wq hS
    go_simp
  try simp only [Act.put, List.setIfInBounds_toArray, List.set_cons_zero, List.set_cons_succ]
  refine takeD 8 18 (.pointer (some ⟨d, 0, none⟩)) (by exact rfl) rfl (by kernel_rfl) (by kernel_rfl) (by kernel_rfl) (fun _ _ _ h => h) (Or.inl ⟨by rfl, ?_⟩) (by assumption) ?_
  · intro wq hS
    go_simp
  try simp only [Act.put, List.setIfInBounds_toArray, List.set_cons_zero, List.set_cons_succ]
  refine takeD 9 19 (.pointer (some ⟨d, 72, none⟩)) (by exact rfl) rfl (by kernel_rfl) (by kernel_rfl) (by kernel_rfl) (fun _ _ _ h => h) (Or.inl ⟨by rfl, ?_⟩) (by assumption) ?_
  · intro wq hS
    go_simp
  try simp only [Act.put, List.setIfInBounds_toArray, List.set_cons_zero, List.set_cons_succ]
  refine takeD 10 20 (.int .i64 n) (by exact rfl) rfl (by kernel_rfl) (by kernel_rfl) (by kernel_rfl) (fun _ _ _ h => h) (Or.inl ⟨by rfl, ?_⟩) (by assumption) ?_
  · intro wq hS
    have e0 := (HD1.out.step hS).ent
    go_simp
  try simp only [Act.put, List.setIfInBounds_toArray, List.set_cons_zero, List.set_cons_succ]
  clear hHeld
  refine wpAnyH_ready (rs := [6]) (by kernel_rfl) (by simp) ?_
  refine AllReadyH.cons (by exact rfl) (fun K hK => ?_) AllReadyH.nil
  go_simp
  refine (entries_ok p m b n _ (HL1.out.step HW4.out)).mono ?_
  rintro e w5 ⟨rfl, hq5⟩
  obtain rfl := hq5.symm
  go_wp2_with fail
  refine hK.out _ _ HW4.out (fun hHeld => ?_)
  clear hK K
  try simp only [Act.put, List.setIfInBounds_toArray, List.set_cons_zero, List.set_cons_succ]
  refine takeD 11 21 (.bool true) (by exact rfl) rfl (by kernel_rfl) (by kernel_rfl) (by kernel_rfl) (fun _ _ _ h => h) (Or.inl ⟨by rfl, ?_⟩) (by assumption) ?_
  · intro wq hS
    go_simp
  try simp only [Act.put, List.setIfInBounds_toArray, List.set_cons_zero, List.set_cons_succ]
  refine takeD 12 22 (.bool true) (by exact rfl) rfl (by kernel_rfl) (by kernel_rfl) (by kernel_rfl) (fun _ _ _ h => h) (Or.inl ⟨by rfl, ?_⟩) (by assumption) ?_
  · intro wq hS
    go_simp
  try simp only [Act.put, List.setIfInBounds_toArray, List.set_cons_zero, List.set_cons_succ]
  refine takeD 13 6 (.bool true) (by exact rfl) rfl (by kernel_rfl) (by kernel_rfl) (by kernel_rfl) (fun _ _ _ h => h) (Or.inl ⟨by rfl, ?_⟩) (by assumption) ?_
  · intro wq hS
    go_simp
  try simp only [Act.put, List.setIfInBounds_toArray, List.set_cons_zero, List.set_cons_succ]
  clear hHeld
  refine wpAnyH_done (by kernel_rfl) ?_ _
  refine NoPanic.normal ?_
  have HO5 := (show Hid _ from HO.out.step HW4.out)
  have HL5 := (show Hid _ from HL1.out.step HW4.out)
  have HD5 := (show Hid _ from HD1.out.step HW4.out)
  have HB5 := (show Hid _ from HB1.out.trans (HW4.out.mono HB1.out.size))
  clear HO HL1 HD1 HW4 HB1
  have HTH : Hid (∀ g, ta = some ⟨g, 0, none⟩ → ∀ i, i < t → World.there w4 g (i * 5) 5) := fun g e i hi => by subst e; exact HO5.out.there i (by have := HT.out; omega)
  have HGG : Hid (∀ g, ta = some ⟨g, 0, none⟩ → w.heap.size ≤ g) := fun g e => by subst e; exact HO5.out.block g rfl
  have HSA : Hid (0 < t → ∃ g, ta = some ⟨g, 0, none⟩) := fun h0 => by
    rcases HO5.out.own.2 with ⟨e, e2⟩ | ⟨g, cap, cur, e, _⟩
    · have := HT.out; omega
    · cases e; exact ⟨g, rfl⟩
  clear HO5
  go_wp2_with fail
  go_loopw [25] (fun i wr => ∃ k : Nat, k ≤ t ∧ i = .int .i64 (k : Int) ∧ Hid (∀ g, ta = some ⟨g, 0, none⟩ → ∀ i, i < t → World.there wr g (i * 5) 5) ∧ Hid (Below w.heap.size w wr)) (fun i _ => t - (intOf i).toNat)
  case atStart => exact ⟨0, by omega, rfl, HTH.out, HB5.out⟩
  case round =>
    obtain ⟨k, hk, rfl, HTK, HBk⟩ := hrel
    by_cases hkt : k = t
    · subst hkt
      go_wp2_with fail
      refine (trial_ok p m b n _ (HL.out.step HBk.out)).mono ?_
      rintro e w6 ⟨⟨v6, rfl, o6⟩, b6⟩
      have HO6 := (show Hid _ from o6.sl)
      have HB6 := (show Hid _ from HBk.out.trans (b6.mono HBk.out.size))
      clear o6 b6
      go_wp2_with fail
      refine (rtrial_ok d b n _ (HD.out.step HB6.out)).mono ?_
      rintro e w7 ⟨⟨v7, rfl, o7⟩, b7⟩
      have HO7 := (show Hid _ from o7.sl)
      have HP6 := (show Hid _ from HO6.out.step b7)
      have HB7 := (show Hid _ from HB6.out.trans (b7.mono HB6.out.size))
      clear o7 b7
      go_wp2_with fail
      refine (same_yes _ _ _ _ HP6.out HO7.out).mono ?_
      rintro e w8 ⟨rfl, b8⟩
      have HB8 := (show Hid _ from HB7.out.trans (b8.mono HB7.out.size))
      clear b8
      go_wp2_with fail
      go_ret
      exact ⟨rfl, HB8.out⟩
    have hk' : k < t := by omega
    obtain ⟨g, rfl⟩ := HSA.out (by omega)
    have th := HTK.out g rfl k hk' 0 (by decide)
    rw [Nat.add_zero] at th
    obtain ⟨old, hold⟩ := Option.isSome_iff_exists.1 th.1
    have fr := th.2
    have d1 : (0 : Int) ≤ (k : Int) := by omega
    have d2 : (k : Int) < (t : Int) := by omega
    clear th
    go_wp2_with fail
    refine ⟨⟨k + 1, by omega, by go_num, (fun g' e i hi => ?_), HBk.out.trans (((upd_set wr g (k * 5) (.int .i64 9)).but).below HBk.out.size (fun i (hi : i = g) => by have := HGG.out g rfl; omega))⟩, by simp [intOf]; omega⟩
    cases e
    exact World.there_setCells (HTK.out g rfl i hi) g (k * 5) [.int .i64 9]
end Go.Proofs.YtlgcbbnnldlooaaDoor
