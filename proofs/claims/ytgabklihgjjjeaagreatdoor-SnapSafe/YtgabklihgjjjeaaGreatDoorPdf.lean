/- snap XIX: the law's fate. -/
import Derived.Test.YtgabklihgjjjeaaGreatDoorDlh
import Derived.Test.YtgabklihgjjjeaaGreatDoorDlj
namespace Go.Proofs.YtgabklihgjjjeaaGreatDoor
open Go.RowKit Go.Maps Go.Sort Go.Shelf pk
set_option linter.unusedVariables false
set_option linter.unusedSimpArgs false
set_option maxRecDepth 100000 in
theorem fate_ok (w : World) (dn : Bool) (kv : Value) (ks : List Bool) (hk : Bl w kv ks) (hkl : ks.length ≤ 140737488355328) (hno : ∀ n c, kv = .slice none n c → c = 0) :
    Calls Tryz.prog 16 #[.agg #[.bool dn, kv]] w fun e w' => (∃ u, e = .returned (.agg #[.bool dn, u]) ∧ Bl w' u ks ∧ Safe w' u) ∧ Below w.heap.size w w' := by
  obtain ⟨ka, kc, hkv, _⟩ := hk.form
  have B1 := (Below.refl w.heap.size w).alloc (Nat.le_refl _) (.cells #[.bool dn, kv] 36)
  have V1 := va_new w [.bool dn, kv] 36
  have B2 := B1.alloc (by simp) (.cells #[.bool false, .slice none 0 0] 42)
  have V1' := V1.alloc (.cells #[.bool false, .slice none 0 0] 42)
  have V2 := va_new (w.alloc (.cells #[.bool dn, kv] 36)) [.bool false, .slice none 0 0] 42
  have HSL := (show Hid _ from hk.sl.step B2)
  have HNO : Hid (∀ n c, kv = .slice none n c → c = 0) := hno
  simp only [World.size_alloc] at V2
  clear hk V1 B1 hno
  subst hkv
  go_enter Tryz.func16, Tryz.ntmps16
  go_wp2_with fail
  generalize hW : (w.alloc (.cells #[.bool dn, .slice ka ks.length kc] 36)).alloc (.cells #[.bool false, .slice none 0 0] 42) = W at *
  have hsz : W.heap.size = w.heap.size + 2 := by rw [← hW]; simp
  clear hW
  refine wp_region_noPanic ?_
  refine wp_region_held_drew (S := fun V => VA V w.heap.size [.bool dn, .slice ka ks.length kc] 36) (by kernel_rfl) V1'.drew ?_
  intro hHeld
  have b0 : Below W.heap.size W W.drew := (Below.refl _ _).drew
  generalize W.drew = W0 at *
  refine takeD 0 3 (.pointer (some ⟨w.heap.size, 0, none⟩)) (by exact rfl) rfl (by kernel_rfl) (by kernel_rfl) (by kernel_rfl) (fun _ _ _ h => h) (Or.inl ⟨by rfl, ?_⟩) (by assumption) ?_
  · intro wq hS
    go_simp
  try simp only [Act.put, List.setIfInBounds_toArray, List.set_cons_zero, List.set_cons_succ]
  refine takeD 1 4 (.bool dn) (by exact rfl) rfl (by kernel_rfl) (by kernel_rfl) (by kernel_rfl) (fun _ _ _ h => h) (Or.inl ⟨by rfl, ?_⟩) (by assumption) ?_
  · intro wq hS
    have c := hS.cell 0 rfl
    go_simp
  try simp only [Act.put, List.setIfInBounds_toArray, List.set_cons_zero, List.set_cons_succ]
  refine takeD 3 6 (.pointer (some ⟨w.heap.size, 1, none⟩)) (by exact rfl) rfl (by kernel_rfl) (by kernel_rfl) (by kernel_rfl) (fun _ _ _ h => h) (Or.inl ⟨by rfl, ?_⟩) (by assumption) ?_
  · intro wq hS
    go_simp
  try simp only [Act.put, List.setIfInBounds_toArray, List.set_cons_zero, List.set_cons_succ]
  refine takeD 4 7 (.slice ka ks.length kc) (by exact rfl) rfl (by kernel_rfl) (by kernel_rfl) (by kernel_rfl) (fun _ _ _ h => h) (Or.inl ⟨by rfl, ?_⟩) (by assumption) ?_
  · intro wq hS
    have c := hS.cell 1 (v := .slice ka ks.length kc) rfl
    go_simp
  try simp only [Act.put, List.setIfInBounds_toArray, List.set_cons_zero, List.set_cons_succ]
  refine wpAnyH_ready (rs := [2]) (by kernel_rfl) (by simp) ?_
  refine AllReadyH.cons (by exact rfl) (fun K hK => ?_) AllReadyH.nil
  go_simp
  have b1 := (Below.refl W0.heap.size W0).alloc (Nat.le_refl _) (.cells #[] 4)
  have HO1 : Hid (Own KB (W0.alloc (.cells #[] 4)) W0.heap.size (.slice (some ⟨W0.heap.size, 0, none⟩) 0 0) []) := own_made KB W0
  have HS1 : Hid (Sl KB (W0.alloc (.cells #[] 4)) (.slice ka ks.length kc) ks) := (HSL.out.step b0).step b1
  refine hK.out _ _ (hHeld.step b1) (fun hHeld1 => ?_)
  clear hK K
  try simp only [Act.put, List.setIfInBounds_toArray, List.set_cons_zero, List.set_cons_succ]
  refine wpAnyH_ready (rs := [5]) (by kernel_rfl) (by simp) ?_
  refine AllReadyH.cons (by exact rfl) (fun K hK => ?_) AllReadyH.nil
  refine appSd (K := KB) (by rfl) (some 8) rfl _ _ rfl W0.heap.size [] ks _ _ (by rfl) (by rfl) HO1.out HS1.out HNO.out (by simp) (by show (0 + ks.length) * 1 ≤ _; omega) (by show 0 + ks.length ≤ _; omega) ?_
  intro v5 w5 o5 b5 g5
  have hw0 : w.heap.size + 2 ≤ W0.heap.size := by have := b0.size; omega
  have b15 : Below W0.heap.size W0 w5 := b1.trans b5
  have V25 : VA w5 (w.heap.size + 1) [.bool false, .slice none 0 0] 42 := (V2.step b0).step b15
  refine hK.out _ _ (hHeld.step b15) (fun hHeld5 => ?_)
  clear hK K
  rw [List.nil_append] at o5
  obtain ⟨a5, c5, hv5, _⟩ := o5.form
  subst hv5
  try simp only [Act.put, List.setIfInBounds_toArray, List.set_cons_zero, List.set_cons_succ]
  refine takeD 6 9 (.agg #[.bool dn, .slice a5 ks.length c5]) (by exact rfl) rfl (by kernel_rfl) (by kernel_rfl) (by kernel_rfl) (fun _ _ _ h => h) (Or.inl ⟨by rfl, ?_⟩) (by assumption) ?_
  · intro wq hS
    go_simp
  try simp only [Act.put, List.setIfInBounds_toArray, List.set_cons_zero, List.set_cons_succ]
  refine wpAnyH_ready (rs := [7]) (by kernel_rfl) (by simp) ?_
  refine AllReadyH.cons (by exact rfl) (fun K hK => ?_) AllReadyH.nil
  refine stAn (by rfl) rfl 42 _ _ rfl (w.heap.size + 1) (by rfl) [.bool false, .slice none 0 0] [.bool dn, .slice a5 ks.length c5] (by rfl) 42 V25 (by kernel_rfl) rfl (fun v hv => by simp at hv; rcases hv with rfl | rfl <;> rfl) ?_
  intro w7 v7 u7
  refine hK.out _ _ ⟨(u7.block _ (by omega)).trans hHeld5.blk⟩ (fun hHeld7 => ?_)
  clear hK K
  refine wpAnyH_done (by kernel_rfl) ?_ _
  refine NoPanic.normal ?_
  have hbl := o5.bl
  have hk7 : Own KB w7 W0.heap.size (.slice a5 ks.length c5) ks := o5.blk (fun g hg => u7.block g (by have := o5.block g hg; omega))
  have HFIN : Hid (Bl w7 (.slice a5 ks.length c5) ks ∧ Safe w7 (.slice a5 ks.length c5)) := hk7.bl
  have HB7 : Hid (Below w.heap.size w w7) := u7.bel (B2.trans ((b0.trans (b15.mono b0.size)).mono (by omega))) (by omega)
  have hld := run_loadVar_row (P := Tryz.prog) w7 (w.heap.size + 1) 42 42 _ (0, 0) _ v7.blk Tryz.underlying42 rfl (by kernel_rfl)
  clear hHeld hHeld1 hHeld5 hHeld7 o5 b5 g5 b15 V25 hbl hk7 b1 b0 B2 V1' V2 u7
  go_wp2_with fail
  refine bodyPost_ret (v := .agg #[.bool dn, .slice a5 ks.length c5]) (by simp [results, Tryz.results16, asAddr, hld]) rfl ?_
  exact ⟨⟨_, rfl, HFIN.out⟩, HB7.out⟩
end Go.Proofs.YtgabklihgjjjeaaGreatDoor
