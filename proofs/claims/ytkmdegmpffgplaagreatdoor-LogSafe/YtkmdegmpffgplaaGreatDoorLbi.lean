/- log XVI: records behind one another, in plain words. -/
import Derived.Test.YtkmdegmpffgplaaGreatDoorLbh
namespace Go.Proofs.YtkmdegmpffgplaaGreatDoor
open Go.RowKit Go.Maps Go.Sort Go.Shelf pk
set_option linter.unusedVariables false
set_option linter.unusedSimpArgs false
theorem flat_parts_aux (bs : List Nat) (C : Nat) (h : bs.length = 32 * C) : ∀ k, k ≤ C → ((List.range k).map (part bs)).flatMap pad32 = bs.take (32 * k)
  | 0, _ => rfl
  | k + 1, hk => by
    rw [List.range_succ, List.map_append, List.flatMap_append, flat_parts_aux bs C h k (by omega)]
    have hl : (part bs k).length ≤ 32 := by unfold part; simp; omega
    have hp : pad32 (part bs k) = (bs.drop (32 * k)).take 32 := by
      rw [pad32_eq _ hl]
      have e : part bs k = (bs.drop (32 * k)).take 32 := by
        unfold part
        rfl
      have hl2 : (part bs k).length = 32 := by rw [e, List.length_take, List.length_drop]; omega
      rw [hl2, e]
      simp
    show _ ++ (pad32 (part bs k) ++ []) = _
    rw [List.append_nil, hp, show 32 * (k + 1) = 32 * k + 32 by omega, List.take_add]
theorem flat_parts (bs : List Nat) (C : Nat) (h : bs.length = 32 * C) : flat (parts bs) = bs := by
  unfold flat parts
  rw [show cnt bs.length = C by unfold cnt; omega, flat_parts_aux bs C h C (Nat.le_refl _), ← h, List.take_length]
theorem flat_sec (num : Nat) (p xs : List Nat) : flat (parts (secL num p xs)) = secL num p xs := flat_parts _ _ (secL_len num p xs)
theorem segB_snoc (n : Nat) (rs : List Rc) (r : Rc) : segB n (rs ++ [r]) = segB n rs ++ secL (n + rs.length) r.1 r.2 := by
  induction rs generalizing n with
  | nil => show secL n r.1 r.2 ++ [] = [] ++ _; rw [List.append_nil]; rfl
  | cons a rs ih =>
    show secL n a.1 a.2 ++ segB (n + 1) (rs ++ [r]) = (secL n a.1 a.2 ++ segB (n + 1) rs) ++ _
    rw [ih (n + 1), List.append_assoc, List.length_cons, show n + 1 + rs.length = n + (rs.length + 1) by omega]
theorem lkd_snoc (g : LG) (rs : List Rc) (r : Rc) : Lkd g (rs ++ [r]) ↔ Lkd g rs ∧ (((adv g rs).empty = true ∧ (adv g rs).next ≠ 1) ∨ r.2 = chn (adv g rs).ahd r.1) := by
  induction rs generalizing g with
  | nil => show (_ ∧ True) ↔ (True ∧ _); rw [and_true, true_and]; rfl
  | cons a rs ih =>
    show (_ ∧ Lkd (g.fol a) (rs ++ [r])) ↔ ((_ ∧ Lkd (g.fol a) rs) ∧ _)
    rw [ih (g.fol a), and_assoc]
    rfl
theorem lkd_app (g : LG) (rs ts : List Rc) : Lkd g (rs ++ ts) ↔ Lkd g rs ∧ Lkd (adv g rs) ts := by
  induction rs generalizing g with
  | nil => show Lkd g ts ↔ (True ∧ Lkd g ts); rw [true_and]
  | cons a rs ih =>
    show (_ ∧ Lkd (g.fol a) (rs ++ ts)) ↔ ((_ ∧ Lkd (g.fol a) rs) ∧ Lkd (adv (g.fol a) rs) ts)
    rw [ih (g.fol a), and_assoc]
theorem adv_app (g : LG) (rs ts : List Rc) : adv g (rs ++ ts) = adv (adv g rs) ts := by
  induction rs generalizing g with
  | nil => rfl
  | cons a rs ih => exact ih (g.fol a)
end Go.Proofs.YtkmdegmpffgplaaGreatDoor
/- log XVII: the laws' same. -/
namespace Go.Proofs.YtkmdegmpffgplaaGreatDoor
open Go.RowKit Go.Maps Go.Sort Go.Shelf pk
set_option linter.unusedVariables false
set_option linter.unusedSimpArgs false
/-- a slice of rows of bytes -/
def Rws (w : World) (v : Value) (ts : List TB) : Prop := Sl KT w v ts ∧ ∀ t ∈ ts, Bs w (.slice t.a t.bs.length t.c) t.bs
theorem Rws.step {w w' : World} {v : Value} {ts : List TB} (h : Rws w v ts) (k : Below w.heap.size w w') : Rws w' v ts := ⟨h.1.step k, fun t ht => (h.2 t ht).step k⟩
set_option maxRecDepth 100000 in
set_option maxHeartbeats 2000000 in
theorem sameL_ok (w : World) (v u : Value) (ts us : List TB) (hv : Rws w v ts) (hu : Rws w u us) (he : ts.map (·.bs) = us.map (·.bs)) :
    Calls Tryz.prog 19 #[v, u] w fun e w' => e = .returned (.bool true) ∧ Below w.heap.size w w' := by
  have HV : Hid (Rws w v ts) := hv
  have HU : Hid (Rws w u us) := hu
  have HE : Hid (ts.map (·.bs) = us.map (·.bs)) := he
  have hlen : us.length = ts.length := by have := congrArg List.length he; simpa using this.symm
  obtain ⟨va, vc, e1, g1, g2, _⟩ := hv.1.form
  obtain ⟨ua, uc, e2, g3, g4, _⟩ := hu.1.form
  obtain ⟨N, hN⟩ : ∃ N, N = ts.length := ⟨_, rfl⟩
  rw [hlen] at e2 g3
  rw [← hN] at e1 e2 g1 g3
  have HN : Hid (N = ts.length ∧ N = us.length) := ⟨hN, by omega⟩
  subst e1
  subst e2
  clear hv hu he hlen hN
  go_enter Tryz.func19, Tryz.ntmps19
  go_wp2_with fail
  go_loopw [13] (fun i wr => ∃ k : Nat, k ≤ N ∧ i = .int .i64 (k : Int) ∧ Hid (Below w.heap.size w wr)) (fun i _ => N - (intOf i).toNat)
  case atStart => exact ⟨0, Nat.zero_le _, rfl, Below.refl _ _⟩
  case round =>
    obtain ⟨k, hk, rfl, HB⟩ := hrel
    by_cases hlt : k < N
    · obtain ⟨ta, hta⟩ : ∃ t, ts[k]? = some t := ⟨_, List.getElem?_eq_getElem (by have := HN.out; omega)⟩
      obtain ⟨tb, htb⟩ : ∃ t, us[k]? = some t := ⟨_, List.getElem?_eq_getElem (by have := HN.out; omega)⟩
      obtain ⟨ab, ao, rfl, hab, hca⟩ := (HV.out.step HB.out).1.at k ta hta
      obtain ⟨bb, bo, rfl, hbb, hcb⟩ := (HU.out.step HB.out).1.at k tb htb
      have HCA : Hid (wr.cell? ⟨ab, ao + k, none⟩ = some (.slice ta.a ta.bs.length ta.c) ∧ ab < wr.heap.size) := ⟨by have := hca 0 _ rfl; rw [show k * KT.k = k from Nat.mul_one k, Nat.add_zero] at this; exact this, hab⟩
      have HCB : Hid (wr.cell? ⟨bb, bo + k, none⟩ = some (.slice tb.a tb.bs.length tb.c) ∧ bb < wr.heap.size) := ⟨by have := hcb 0 _ rfl; rw [show k * KT.k = k from Nat.mul_one k, Nat.add_zero] at this; exact this, hbb⟩
      have HTA : Hid (∀ w', Below w.heap.size w w' → Bs w' (.slice ta.a ta.bs.length ta.c) ta.bs) := fun w' kk => ((HV.out.step kk).2 ta (List.mem_of_getElem? hta))
      have HTB : Hid (∀ w', Below w.heap.size w w' → Bs w' (.slice tb.a tb.bs.length tb.c) tb.bs) := fun w' kk => ((HU.out.step kk).2 tb (List.mem_of_getElem? htb))
      have HEQ : Hid (ta.bs = tb.bs) := (show ta.bs = tb.bs by
        have h1 := congrArg (fun l => l[k]?) HE.out
        simp only [List.getElem?_map, hta, htb, Option.map_some, Option.some.injEq] at h1
        exact h1)
      have dk : (k : Int) < (N : Int) := by omega
      clear hta htb hca hcb hab hbb
      go_upto_region 6 with fail
      refine wp_region_noPanic ?_
      refine wp_region_held_drew (S := fun V => V.cell? ⟨ab, ao + k, none⟩ = some (.slice ta.a ta.bs.length ta.c) ∧ V.cell? ⟨bb, bo + k, none⟩ = some (.slice tb.a tb.bs.length tb.c)) (by kernel_rfl) ⟨HCA.out.1, HCB.out.1⟩ ?_
      intro hHeld
      have HD : Hid (Below w.heap.size w wr.drew) := HB.out.drew
      have HDr : Hid (wr.heap.size ≤ wr.drew.heap.size) := Nat.le_refl _
      generalize wr.drew = w1 at *
      refine takeD 0 16 (.slice (some ⟨ab, ao, none⟩) N vc) (by exact rfl) rfl (by kernel_rfl) (by kernel_rfl) (by kernel_rfl) (fun _ _ _ h => h) (Or.inl ⟨by rfl, ?_⟩) (by assumption) ?_
      · intro wq hS
        go_simp
      try simp only [Act.put, List.setIfInBounds_toArray, List.set_cons_zero, List.set_cons_succ]
      refine takeD 1 17 (.int .i64 (k : Int)) (by exact rfl) rfl (by kernel_rfl) (by kernel_rfl) (by kernel_rfl) (fun _ _ _ h => h) (Or.inl ⟨by rfl, ?_⟩) (by assumption) ?_
      · intro wq hS
        go_simp
      try simp only [Act.put, List.setIfInBounds_toArray, List.set_cons_zero, List.set_cons_succ]
      refine takeD 2 18 (.pointer (some ⟨ab, ao + k, none⟩)) (by exact rfl) rfl (by kernel_rfl) (by kernel_rfl) (by kernel_rfl) (fun _ _ _ h => h) (Or.inl ⟨by rfl, ?_⟩) (by assumption) ?_
      · intro wq hS
        go_simp
      try simp only [Act.put, List.setIfInBounds_toArray, List.set_cons_zero, List.set_cons_succ]
      refine takeD 3 19 (.slice ta.a ta.bs.length ta.c) (by exact rfl) rfl (by kernel_rfl) (by kernel_rfl) (by kernel_rfl) (fun _ _ _ h => h) (Or.inl ⟨by rfl, ?_⟩) (by assumption) ?_
      · intro wq hS
        have c := hS.1
        go_simp
      try simp only [Act.put, List.setIfInBounds_toArray, List.set_cons_zero, List.set_cons_succ]
      refine takeD 4 20 (.slice (some ⟨bb, bo, none⟩) N uc) (by exact rfl) rfl (by kernel_rfl) (by kernel_rfl) (by kernel_rfl) (fun _ _ _ h => h) (Or.inl ⟨by rfl, ?_⟩) (by assumption) ?_
      · intro wq hS
        go_simp
      try simp only [Act.put, List.setIfInBounds_toArray, List.set_cons_zero, List.set_cons_succ]
      refine takeD 5 21 (.int .i64 (k : Int)) (by exact rfl) rfl (by kernel_rfl) (by kernel_rfl) (by kernel_rfl) (fun _ _ _ h => h) (Or.inl ⟨by rfl, ?_⟩) (by assumption) ?_
      · intro wq hS
        go_simp
      try simp only [Act.put, List.setIfInBounds_toArray, List.set_cons_zero, List.set_cons_succ]
      refine takeD 6 22 (.pointer (some ⟨bb, bo + k, none⟩)) (by exact rfl) rfl (by kernel_rfl) (by kernel_rfl) (by kernel_rfl) (fun _ _ _ h => h) (Or.inl ⟨by rfl, ?_⟩) (by assumption) ?_
      · intro wq hS
        go_simp
      try simp only [Act.put, List.setIfInBounds_toArray, List.set_cons_zero, List.set_cons_succ]
      refine takeD 7 23 (.slice tb.a tb.bs.length tb.c) (by exact rfl) rfl (by kernel_rfl) (by kernel_rfl) (by kernel_rfl) (fun _ _ _ h => h) (Or.inl ⟨by rfl, ?_⟩) (by assumption) ?_
      · intro wq hS
        have c := hS.2
        go_simp
      try simp only [Act.put, List.setIfInBounds_toArray, List.set_cons_zero, List.set_cons_succ]
      refine wpAnyH_ready (rs := [8]) (by kernel_rfl) (by simp) ?_
      refine AllReadyH.cons (by exact rfl) (fun K hK => ?_) AllReadyH.nil
      go_simp
      refine (same_ok _ _ _ _ w1 (HTA.out w1 HD.out) (HTB.out w1 HD.out)).mono ?_
      rintro e w2 ⟨rfl, b2⟩
      rw [decide_eq_true HEQ.out]
      have HD2 : Hid (Below w.heap.size w w2) := HD.out.trans (b2.mono HD.out.size)
      have HC2 : Hid (w2.cell? ⟨ab, ao + k, none⟩ = some (.slice ta.a ta.bs.length ta.c) ∧ w2.cell? ⟨bb, bo + k, none⟩ = some (.slice tb.a tb.bs.length tb.c)) := ⟨(b2.cell (p := ⟨ab, ao + k, none⟩) (by have := HDr.out; have := HCA.out.2; show ab < _; omega)).trans hHeld.1, (b2.cell (p := ⟨bb, bo + k, none⟩) (by have := HDr.out; have := HCB.out.2; show bb < _; omega)).trans hHeld.2⟩
      go_wp2_with fail
      refine hK.out _ _ HC2.out (fun hHeld2 => ?_)
      clear hK K b2
      try simp only [Act.put, List.setIfInBounds_toArray, List.set_cons_zero, List.set_cons_succ]
      refine takeD 9 25 (.bool false) (by exact rfl) rfl (by kernel_rfl) (by kernel_rfl) (by kernel_rfl) (fun _ _ _ h => h) (Or.inl ⟨by rfl, ?_⟩) (by assumption) ?_
      · intro wq hS
        go_simp
      try simp only [Act.put, List.setIfInBounds_toArray, List.set_cons_zero, List.set_cons_succ]
      refine wpAnyH_done (by kernel_rfl) ?_ _
      refine NoPanic.normal ?_
      clear hHeld hHeld2
      go_wp2_with fail
      go_roundw
      case rel => exact ⟨k + 1, by omega, by simp, HD2.out⟩
      case measure => simp [intOf]; omega
    · obtain rfl : k = N := by omega
      go_wp2_with fail
      go_ret
      exact ⟨rfl, HB.out⟩
end Go.Proofs.YtkmdegmpffgplaaGreatDoor
