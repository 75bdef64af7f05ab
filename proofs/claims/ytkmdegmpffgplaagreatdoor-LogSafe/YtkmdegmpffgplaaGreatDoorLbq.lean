/- log XLII: what an Append, a Sync, a cut leave of a log's files, in plain words. -/
import Derived.Test.YtkmdegmpffgplaaGreatDoorLbp
import Derived.Test.YtkmdegmpffgplaaGreatDoorLap
namespace Go.Proofs.YtkmdegmpffgplaaGreatDoor
open Go.RowKit Go.Maps Go.Sort Go.Shelf pk
set_option linter.unusedVariables false
set_option linter.unusedSimpArgs false
theorem sgt_app_lt {K q : Nat} {rs : List Rc} {r : Rc} {i : Nat} (hi : (i + 1) * K ≤ rs.length) : sgt K (rs ++ [r]) i = sgt K rs i := by
  rw [Nat.add_mul, Nat.one_mul] at hi
  unfold sgt
  rw [List.drop_append_of_le_length (by omega), List.take_append_of_le_length (by rw [List.length_drop]; omega)]
theorem sgt_app_eq {K q m : Nat} {rs : List Rc} {r : Rc} (hm : m < K) (hq : rs.length = q * K + m) : sgt K (rs ++ [r]) q = sgt K rs q ++ [r] ∧ (sgt K rs q).length = m := by
  unfold sgt
  have h1 : (rs.drop (q * K)).length = m := by rw [List.length_drop]; omega
  refine ⟨?_, by rw [List.length_take]; omega⟩
  rw [List.drop_append_of_le_length (by omega), List.take_of_length_le (by rw [List.length_append]; simp; omega), List.take_of_length_le (by omega)]
theorem sgt_nil {K q : Nat} {rs : List Rc} (h : rs.length ≤ q * K) : sgt K rs q = [] := by
  unfold sgt
  rw [List.drop_of_length_le h, List.take_nil]
theorem qm (K : Nat) (hK : 1 ≤ K) (n : Nat) : ∃ m, m < K ∧ n = n / K * K + m := ⟨n % K, Nat.mod_lt _ (by omega), by rw [Nat.mul_comm]; exact (Nat.div_add_mod n K).symm⟩
/-- the record behind the others is one of them -/
theorem sf_whole {fs : FS} {K : Nat} {rs : List Rc} {M : Nat} {r : Rc} (hK : 1 ≤ K) (h : SF fs K rs M (secL (1 + rs.length) r.1 r.2)) (hs : Syn fs M) : SF fs K (rs ++ [r]) M [] := by
  have hne : secL (1 + rs.length) r.1 r.2 ≠ [] := fun e => by
    have h1 := congrArg List.length e
    rw [secL_len] at h1
    have h2 : 32 * cn4 (r.1.length + 4 + r.2.length) = 0 := h1
    unfold cn4 at h2
    omega
  have hM := h.tail hne
  obtain ⟨m, hm, hq⟩ := qm K hK rs.length
  obtain ⟨q, hqq⟩ : ∃ q, q = rs.length / K := ⟨_, rfl⟩
  rw [← hqq] at hq hM
  have hl : (rs ++ [r]).length = rs.length + 1 := by simp
  refine ⟨fun i hi => ?_, h.only, h.name, ?_, ?_, h.few, fun e => absurd rfl e⟩
  · obtain ⟨t, h1, h2, h3, h4⟩ := h.file i hi
    rcases Nat.lt_or_ge i q with hiq | hiq
    · have hle : (i + 1) * K ≤ rs.length := by
        have h5 : (i + 1) * K ≤ q * K := Nat.mul_le_mul_right _ hiq
        omega
      rw [sgt_app_lt (q := q) hle]
      refine ⟨t, h1, ?_, h3, h4⟩
      rw [h2, if_neg (by omega), if_neg (by omega)]
    · obtain rfl : i = q := by omega
      obtain ⟨e1, e2⟩ := sgt_app_eq (r := r) hm hq
      rw [if_pos (by omega)] at h2
      have e3 : segB (i * K + 1) (sgt K (rs ++ [r]) i) = segB (i * K + 1) (sgt K rs i) ++ secL (1 + rs.length) r.1 r.2 := by
        rw [e1, segB_snoc, e2, show i * K + 1 + m = 1 + rs.length by omega]
      refine ⟨t, h1, ?_, h3, ?_⟩
      · rw [e3, h2]
        split <;> rw [List.append_nil]
      · rw [e3, ← h2, flat_len, hs i t hi h1]
        exact Nat.le_refl _
  · rw [hl, hM, hqq]
    exact Nat.succ_le_succ (Nat.div_le_div_right (Nat.le_succ _))
  · rw [hl, hM, Nat.add_mul, Nat.one_mul]
    omega
/-- the sectors of a record behind the others -/
theorem sf_torn {fs : FS} {K : Nat} {rs : List Rc} {M : Nat} (r : Rc) (hK : 1 ≤ K) (h : SF fs K rs M []) (hf : rs.length / K + 1 ≤ 100) :
    SF (apd fs (nmS (rs.length / K)) (parts (secL (1 + rs.length) r.1 r.2))) K rs (rs.length / K + 1) (secL (1 + rs.length) r.1 r.2) := by
  obtain ⟨m, hm, hq⟩ := qm K hK rs.length
  have htop := h.top
  have hqM : rs.length / K ≤ M := by
    have h1 := h.all
    exact Nat.div_le_of_le_mul (by rw [Nat.mul_comm]; exact h1)
  obtain ⟨q, hqq⟩ : ∃ q, q = rs.length / K := ⟨_, rfl⟩
  rw [← hqq] at hq htop hqM hf ⊢
  have hmem : ∀ l, l ∈ nms (apd fs (nmS q) (parts (secL (1 + rs.length) r.1 r.2))) ↔ l = nmS q ∨ l ∈ nms fs := fun l => by
    rw [nms_apd]
    split
    · exact ⟨Or.inr, fun h => h.elim (fun e => by rw [e]; assumption) id⟩
    · rw [List.mem_append, List.mem_singleton]; exact Or.comm
  refine ⟨fun i hi => ?_, fun k hk hm2 => ?_, fun l hl => ?_, by omega, by rw [Nat.add_mul, Nat.one_mul]; omega, hf, fun _ => by rw [hqq]⟩
  · rcases Nat.lt_or_ge i q with hiq | hiq
    · obtain ⟨t, h1, h2, h3, h4⟩ := h.file i (by omega)
      refine ⟨t, ?_, ?_, h3, h4⟩
      · rw [lk_apd_other _ _ _ _ (fun e => by have := nmS_inj (by omega) (by omega) e; omega)]
        exact h1
      · rw [if_neg (by omega)]
        rw [h2]
        split <;> rfl
    · obtain rfl : i = q := by omega
      rcases Nat.lt_or_ge i M with h0 | h0
      · obtain ⟨t, h1, h2, h3, h4⟩ := h.file i h0
        refine ⟨_, lk_apd_same _ _ _, ?_, ?_, ?_⟩
        · rw [h1]
          show flat (t.2.1 ++ parts _) = _
          rw [flat_app, flat_sec, h2, if_pos rfl]
          congr 1
          split <;> rw [List.append_nil]
        · rw [h1]
          show t.2.2 ≤ (t.2.1 ++ _).length
          rw [List.length_append]
          omega
        · rw [h1]
          exact h4
      · have hn : lk fs (nmS i) = none := by
          rw [lk_none]
          intro hin
          have := h.only i (by omega) hin
          omega
        have hsg : sgt K rs i = [] := sgt_nil (by have := h.all; have h5 : M * K ≤ i * K := Nat.mul_le_mul_right _ h0; omega)
        refine ⟨_, lk_apd_same _ _ _, ?_, ?_, ?_⟩
        · rw [hn, hsg, if_pos rfl]
          show flat (parts _) = segB _ [] ++ _
          rw [flat_sec]
          rfl
        · rw [hn]
          exact Nat.zero_le _
        · rw [hn, hsg]
          exact Nat.zero_le _
  · rcases (hmem _).1 hm2 with e | e
    · have := nmS_inj hk (by omega) e
      omega
    · have := h.only k hk e
      omega
  · rcases (hmem _).1 hl with e | e
    · exact ⟨q, by omega, e⟩
    · exact h.name l e
/-- the last file is synced -/
theorem sf_sync {fs : FS} {K : Nat} {rs : List Rc} {M : Nat} {T : List Nat} (h : SF fs K rs M T) : SF (doOp ⟨1, nmS (M - 1), [], 0⟩ fs) K rs M T ∧ Syn (doOp ⟨1, nmS (M - 1), [], 0⟩ fs) M := by
  have hb := h.few
  have hlk : ∀ l, lk (doOp ⟨1, nmS (M - 1), [], 0⟩ fs) l = (lk fs l).map (fun t => if t.1 = nmS (M - 1) then (t.1, t.2.1, t.2.1.length) else t) := fun l => by
    rw [sync_fs, lk_map _ _ (fun t => by split <;> rfl)]
  have hnm : nms (doOp ⟨1, nmS (M - 1), [], 0⟩ fs) = nms fs := by rw [sync_fs, nms_map _ _ (fun t => by split <;> rfl)]
  refine ⟨⟨fun i hi => ?_, fun k hk hm => h.only k hk (by rw [← hnm]; exact hm), fun l hl => h.name l (by rw [← hnm]; exact hl), h.top, h.all, h.few, h.tail⟩, fun i t hi ht => ?_⟩
  · obtain ⟨t, h1, h2, h3, h4⟩ := h.file i hi
    rw [hlk, h1]
    refine ⟨_, rfl, ?_, ?_, ?_⟩ <;> dsimp only <;> split
    · exact h2
    · exact h2
    · exact Nat.le_refl _
    · exact h3
    · show _ ≤ 32 * t.2.1.length; omega
    · exact h4
  · rw [hlk] at ht
    obtain ⟨t0, g1, g2, g3, g4⟩ := h.file i hi
    rw [g1] at ht
    have hn := (lk_nm g1).1
    simp only [Option.map_some, Option.some.injEq] at ht
    subst ht
    split
    · rfl
    · rename_i hne
      exact h.mid (by
        rcases Nat.lt_or_ge (i + 1) M with h5 | h5
        · exact h5
        · exact absurd (by rw [hn, show i = M - 1 by omega]) hne) g1
/-- the tail is cut -/
theorem sf_cut {fs : FS} {K : Nat} {rs : List Rc} {M : Nat} {T : List Nat} (h : SF fs K rs M T) (hs : Syn fs M) : SF (doOp ⟨2, nmS (M - 1), [], (segB ((M - 1) * K + 1) (sgt K rs (M - 1))).length / 32⟩ fs) K rs M [] := by
  obtain ⟨kp, hkp⟩ : ∃ kp, kp = (segB ((M - 1) * K + 1) (sgt K rs (M - 1))).length / 32 := ⟨_, rfl⟩
  rw [← hkp]
  have hb := h.few
  have hlk : ∀ l, lk (doOp ⟨2, nmS (M - 1), [], kp⟩ fs) l = (lk fs l).map (fun t => if t.1 = nmS (M - 1) then (t.1, t.2.1.take kp, min kp t.2.1.length) else t) := fun l => by
    rw [trunc_fs, lk_map _ _ (fun t => by split <;> rfl)]
  have hnm : nms (doOp ⟨2, nmS (M - 1), [], kp⟩ fs) = nms fs := by rw [trunc_fs, nms_map _ _ (fun t => by split <;> rfl)]
  refine ⟨fun i hi => ?_, fun k hk hm => h.only k hk (by rw [← hnm]; exact hm), fun l hl => h.name l (by rw [← hnm]; exact hl), h.top, h.all, h.few, fun e => absurd rfl e⟩
  obtain ⟨t, h1, h2, h3, h4⟩ := h.file i hi
  have hn := (lk_nm h1).1
  rw [hlk, h1]
  rcases Nat.lt_or_ge (i + 1) M with h5 | h5
  · have hne : ¬ t.1 = nmS (M - 1) := fun e => by
      rw [hn] at e
      have := nmS_inj (by omega) (by omega) e
      omega
    refine ⟨t, by simp only [Option.map_some]; rw [if_neg hne], ?_, h3, h4⟩
    rw [h2, if_neg (by omega), if_neg (by omega)]
  · obtain rfl : i = M - 1 := by omega
    obtain ⟨a, ha⟩ := segB_32 ((M - 1) * K + 1) (sgt K rs (M - 1))
    have hka : kp = a := by rw [hkp, ha]; omega
    obtain ⟨f1, f2, f3⟩ := flat_split h2 ha
    refine ⟨_, by simp only [Option.map_some]; rw [if_pos hn], ?_, ?_, ?_⟩
    · show flat (t.2.1.take kp) = _
      rw [hka, f1]
      split <;> rw [List.append_nil]
    · show min kp t.2.1.length ≤ (t.2.1.take kp).length
      rw [List.length_take]
      exact Nat.le_refl _
    · show _ ≤ 32 * min kp t.2.1.length
      rw [ha, hka]
      omega
theorem sub_len : ∀ (l m : List (List UInt8)), l.Nodup → (∀ x ∈ l, x ∈ m) → l.length ≤ m.length
  | [], m, _, _ => Nat.zero_le _
  | x :: l, m, hn, hs => by
    rw [List.nodup_cons] at hn
    have hx := hs x (List.mem_cons_self ..)
    have h1 := sub_len l (m.erase x) hn.2 (fun y hy => (List.mem_erase_of_ne (fun e => hn.1 (by rw [← e]; exact hy))).2 (hs y (List.mem_cons_of_mem _ hy)))
    rw [List.length_erase_of_mem hx] at h1
    have h2 := List.length_pos_of_mem hx
    rw [List.length_cons]
    omega
theorem sf_len {fs : FS} {K : Nat} {rs : List Rc} {M : Nat} {T : List Nat} (h : SF fs K rs M T) (hnd : (nms fs).Nodup) : fs.length ≤ M := by
  have h1 : (nms fs).length ≤ ((List.range M).map nmS).length := sub_len _ _ hnd (fun l hl => by
    obtain ⟨k, hk, e⟩ := h.name l hl
    rw [e] at hl ⊢
    exact List.mem_map.2 ⟨k, List.mem_range.2 (h.only k hk hl), rfl⟩)
  unfold nms at h1
  simpa using h1
theorem sf_new (K : Nat) : SF [] K [] 0 [] := ⟨fun i hi => by omega, fun k _ hk => by simp [nms] at hk, fun l hl => by simp [nms] at hl, Nat.zero_le _, Nat.zero_le _, by omega, fun e => absurd rfl e⟩
theorem totA_upd1 (fs : FS) (l : List UInt8) (t : List UInt8 × List (List Nat) × Nat) (hnd : (nms fs).Nodup) (h : lk fs l = some t) (ss : List (List Nat)) (sy : Nat) (hs : ss.length = t.2.1.length) : totA (upd1 fs l ss sy) ≤ totA fs := by
  induction fs with
  | nil => exact Nat.le_refl _
  | cons a fs ih =>
    obtain ⟨h1, h2⟩ := List.nodup_cons.1 (show (a.1 :: nms fs).Nodup from hnd)
    rw [upd1_map, List.map_cons]
    by_cases e : a.1 = l
    · have ea : a = t := by
        unfold lk at h
        rw [List.find?_cons, show (a.1 == l) = true by simp [e]] at h
        simpa using h
      have er : fs.map (fun t => if t.1 = l then (t.1, ss, sy) else t) = fs := by
        conv => rhs; rw [← List.map_id fs]
        refine List.map_congr_left (fun u hu => ?_)
        have : u.1 ≠ l := fun e2 => h1 (by rw [e, ← e2]; exact List.mem_map.2 ⟨u, hu, rfl⟩)
        rw [if_neg this]
        rfl
      rw [er, if_pos e]
      show ss.length + totA fs ≤ a.2.1.length + totA fs
      rw [hs, ea]
      exact Nat.le_refl _
    · have h' : lk fs l = some t := by
        unfold lk at h ⊢
        rw [List.find?_cons, show (a.1 == l) = false by simpa using e] at h
        exact h
      have := ih h2 h'
      rw [upd1_map] at this
      rw [if_neg e]
      show a.2.1.length + totA _ ≤ a.2.1.length + totA fs
      omega
theorem tot_stl_aux (ks : List Bool) (ns : List (List UInt8)) : ∀ st : FS × Nat, (nms st.1).Nodup → totA (ns.foldl (stp ks) st).1 ≤ totA st.1 := by
  induction ns with
  | nil => intro st _; exact Nat.le_refl _
  | cons n ns ih =>
    intro st hnd
    show totA (ns.foldl (stp ks) (stp ks st n)).1 ≤ _
    cases h : lk st.1 n with
    | none =>
      have e : stp ks st n = st := by unfold stp; unfold lk at h; rw [h]
      rw [e]
      exact ih st hnd
    | some t =>
      have e : stp ks st n = (upd1 st.1 n (zf ks st.2 t.2.2 t.2.1.length t.2.1) t.2.1.length, st.2 + (t.2.1.length - t.2.2)) := by
        unfold stp
        unfold lk at h
        rw [h]
      have h2 := ih (stp ks st n) (by rw [e]; show (nms (upd1 _ _ _ _)).Nodup; rw [nms_upd1]; exact hnd)
      refine Nat.le_trans h2 ?_
      rw [e]
      exact totA_upd1 st.1 n t hnd h _ _ (zf_len _ _ _ _ _)
theorem tot_stl (ks : List Bool) (ns : List (List UInt8)) (fs : FS) (h : (nms fs).Nodup) : totA (stl ks ns fs).1 ≤ totA fs := tot_stl_aux ks ns (fs, 0) h
end Go.Proofs.YtkmdegmpffgplaaGreatDoor
/- log XLIII: LogSafe's own: its fate, its script that comes in. -/
namespace Go.Proofs.YtkmdegmpffgplaaGreatDoor
open Go.RowKit Go.Maps Go.Sort Go.Shelf Go.ChangeShapes Go.WideShapes Go.ChangeAt pk
set_option linter.unusedVariables false
set_option linter.unusedSimpArgs false
set_option maxRecDepth 100000 in
theorem fate_ok (w : World) (dn : Bool) (kv : Value) (ks : List Bool) (hk : Bl w kv ks) (hkl : ks.length ≤ 140737488355328) (hno : ∀ n c, kv = .slice none n c → c = 0) :
    Calls Tryz.prog 28 #[.agg #[.bool dn, kv]] w fun e w' => (∃ u, e = .returned (.agg #[.bool dn, u]) ∧ Bl w' u ks ∧ Safe w' u) ∧ Below w.heap.size w w' := by
  obtain ⟨ka, kc, hkv, _⟩ := hk.form
  have B1 := (Below.refl w.heap.size w).alloc (Nat.le_refl _) (.cells #[.bool dn, kv] 61)
  have V1 := va_new w [.bool dn, kv] 61
  have B2 := B1.alloc (by simp) (.cells #[.bool false, .slice none 0 0] 67)
  have V1' := V1.alloc (.cells #[.bool false, .slice none 0 0] 67)
  have V2 := va_new (w.alloc (.cells #[.bool dn, kv] 61)) [.bool false, .slice none 0 0] 67
  have HSL := (show Hid _ from hk.sl.step B2)
  have HNO : Hid (∀ n c, kv = .slice none n c → c = 0) := hno
  simp only [World.size_alloc] at V2
  clear hk V1 B1 hno
  subst hkv
  go_enter Tryz.func28, Tryz.ntmps28
  go_wp2_with fail
  generalize hW : (w.alloc (.cells #[.bool dn, .slice ka ks.length kc] 61)).alloc (.cells #[.bool false, .slice none 0 0] 67) = W at *
  have hsz : W.heap.size = w.heap.size + 2 := by rw [← hW]; simp
  clear hW
  refine wp_region_noPanic ?_
  refine wp_region_held_drew (S := fun V => VA V w.heap.size [.bool dn, .slice ka ks.length kc] 61) (by kernel_rfl) V1'.drew ?_
  intro hHeld
  have b0 : Below W.heap.size W W.drew := (Below.refl _ _).drew
  generalize W.drew = W0 at *
  refine takeD 0 3 (.pointer (some ⟨w.heap.size, 0, none⟩)) (by exact rfl) rfl (by kernel_rfl) (by kernel_rfl) (by kernel_rfl) (fun _ _ _ h => h) (Or.inl ⟨by rfl, ?_⟩) (by assumption) ?_
  · intro wq hS
    go_simp
  try simp only [Act.put, List.setIfInBounds_toArray, List.set_cons_zero, List.set_cons_succ]
  refine takeD 1 4 (.bool dn) (by exact rfl) rfl (by kernel_rfl) (by kernel_rfl) (by kernel_rfl) (fun _ _ _ h => h) (Or.inl ⟨by rfl, ?_⟩) (by assumption) ?_
  · intro wq hS
    have c := hS.cell 0 rfl
    go_simp
  try simp only [Act.put, List.setIfInBounds_toArray, List.set_cons_zero, List.set_cons_succ]
  refine takeD 3 6 (.pointer (some ⟨w.heap.size, 1, none⟩)) (by exact rfl) rfl (by kernel_rfl) (by kernel_rfl) (by kernel_rfl) (fun _ _ _ h => h) (Or.inl ⟨by rfl, ?_⟩) (by assumption) ?_
  · intro wq hS
    go_simp
  try simp only [Act.put, List.setIfInBounds_toArray, List.set_cons_zero, List.set_cons_succ]
  refine takeD 4 7 (.slice ka ks.length kc) (by exact rfl) rfl (by kernel_rfl) (by kernel_rfl) (by kernel_rfl) (fun _ _ _ h => h) (Or.inl ⟨by rfl, ?_⟩) (by assumption) ?_
  · intro wq hS
    have c := hS.cell 1 (v := .slice ka ks.length kc) rfl
    go_simp
  try simp only [Act.put, List.setIfInBounds_toArray, List.set_cons_zero, List.set_cons_succ]
  refine wpAnyH_ready (rs := [2]) (by kernel_rfl) (by simp) ?_
  refine AllReadyH.cons (by exact rfl) (fun K hK => ?_) AllReadyH.nil
  go_simp
  have b1 := (Below.refl W0.heap.size W0).alloc (Nat.le_refl _) (.cells #[] 4)
  have HO1 : Hid (Own KB (W0.alloc (.cells #[] 4)) W0.heap.size (.slice (some ⟨W0.heap.size, 0, none⟩) 0 0) []) := own_made KB W0
  have HS1 : Hid (Sl KB (W0.alloc (.cells #[] 4)) (.slice ka ks.length kc) ks) := (HSL.out.step b0).step b1
  refine hK.out _ _ (hHeld.step b1) (fun hHeld1 => ?_)
  clear hK K
  try simp only [Act.put, List.setIfInBounds_toArray, List.set_cons_zero, List.set_cons_succ]
  refine wpAnyH_ready (rs := [5]) (by kernel_rfl) (by simp) ?_
  refine AllReadyH.cons (by exact rfl) (fun K hK => ?_) AllReadyH.nil
  refine appSd (K := KB) (by rfl) (some 8) rfl _ _ rfl W0.heap.size [] ks _ _ (by rfl) (by rfl) HO1.out HS1.out HNO.out (by simp) (by show (0 + ks.length) * 1 ≤ _; omega) (by show 0 + ks.length ≤ _; omega) ?_
  intro v5 w5 o5 b5 g5
  have hw0 : w.heap.size + 2 ≤ W0.heap.size := by have := b0.size; omega
  have b15 : Below W0.heap.size W0 w5 := b1.trans b5
  have V25 : VA w5 (w.heap.size + 1) [.bool false, .slice none 0 0] 67 := (V2.step b0).step b15
  refine hK.out _ _ (hHeld.step b15) (fun hHeld5 => ?_)
  clear hK K
  rw [List.nil_append] at o5
  obtain ⟨a5, c5, hv5, _⟩ := o5.form
  subst hv5
  try simp only [Act.put, List.setIfInBounds_toArray, List.set_cons_zero, List.set_cons_succ]
  refine takeD 6 9 (.agg #[.bool dn, .slice a5 ks.length c5]) (by exact rfl) rfl (by kernel_rfl) (by kernel_rfl) (by kernel_rfl) (fun _ _ _ h => h) (Or.inl ⟨by rfl, ?_⟩) (by assumption) ?_
  · intro wq hS
    go_simp
  try simp only [Act.put, List.setIfInBounds_toArray, List.set_cons_zero, List.set_cons_succ]
  refine wpAnyH_ready (rs := [7]) (by kernel_rfl) (by simp) ?_
  refine AllReadyH.cons (by exact rfl) (fun K hK => ?_) AllReadyH.nil
  refine stAn (by rfl) rfl 67 _ _ rfl (w.heap.size + 1) (by rfl) [.bool false, .slice none 0 0] [.bool dn, .slice a5 ks.length c5] (by rfl) 67 V25 (by kernel_rfl) rfl (fun v hv => by simp at hv; rcases hv with rfl | rfl <;> rfl) ?_
  intro w7 v7 u7
  refine hK.out _ _ ⟨(u7.block _ (by omega)).trans hHeld5.blk⟩ (fun hHeld7 => ?_)
  clear hK K
  refine wpAnyH_done (by kernel_rfl) ?_ _
  refine NoPanic.normal ?_
  have hbl := o5.bl
  have hk7 : Own KB w7 W0.heap.size (.slice a5 ks.length c5) ks := o5.blk (fun g hg => u7.block g (by have := o5.block g hg; omega))
  have HFIN : Hid (Bl w7 (.slice a5 ks.length c5) ks ∧ Safe w7 (.slice a5 ks.length c5)) := hk7.bl
  have HB7 : Hid (Below w.heap.size w w7) := u7.bel (B2.trans ((b0.trans (b15.mono b0.size)).mono (by omega))) (by omega)
  have hld := run_loadVar_row (P := Tryz.prog) w7 (w.heap.size + 1) 67 67 _ (0, 0) _ v7.blk Tryz.underlying67 rfl (by kernel_rfl)
  clear hHeld hHeld1 hHeld5 hHeld7 o5 b5 g5 b15 V25 hbl hk7 b1 b0 B2 V1' V2 u7
  go_wp2_with fail
  refine bodyPost_ret (v := .agg #[.bool dn, .slice a5 ks.length c5]) (by simp [results, Tryz.results28, asAddr, hld]) rfl ?_
  exact ⟨⟨_, rfl, HFIN.out⟩, HB7.out⟩
/-- a call of LogSafe's script -/
structure OpL where
  k : Nat
  pa : Option Addr
  pc : Nat
  bs : List Nat
  n : Int
  dn : Bool
  ka : Option Addr
  kc : Nat
  ks : List Bool
def OpL.cells (o : OpL) : List Value := [.int .u8 (o.k : Int), .slice o.pa o.bs.length o.pc, .int .i64 o.n, .bool o.dn, .slice o.ka o.ks.length o.kc]
theorem infoOL : (Tryz.prog.info? 63).map (fun i => (i.zero.map (fun z => z.cells.size), i.size, i.bytes)) = some (some 5, 5, 72) := by kernel_rfl
def KOL : Kd OpL where
  T := 63
  S := 58
  k := 5
  bt := 72
  enc := OpL.cells
  info := by
    obtain ⟨i, hi, hz⟩ := Option.map_eq_some_iff.1 infoOL
    simp only [Prod.mk.injEq] at hz
    obtain ⟨z, hz0, hz1⟩ := Option.map_eq_some_iff.1 hz.1
    exact ⟨i, z, hi, hz0, hz.2.1, hz.2.2, hz1⟩
  und := Tryz.underlying58
  pos := by decide
  len := fun _ => rfl
  one := fun x v h => by simp [OpL.cells] at h; rcases h with rfl | rfl | rfl | rfl | rfl <;> rfl
structure OpLIn (W : World) (o : OpL) : Prop where
  k : o.k < 256
  p : Bs W (.slice o.pa o.bs.length o.pc) o.bs
  f : Bl W (.slice o.ka o.ks.length o.kc) o.ks
  no : o.ka = none → o.kc = 0
  n : -9223372036854775808 ≤ o.n ∧ o.n ≤ 9223372036854775807
def OpLSz (R : Nat) (o : OpL) : Prop := o.bs.length ≤ R ∧ o.ks.length ≤ R
set_option maxRecDepth 100000 in
theorem came_opL {H : Type} {enc : TypeId × Value → H} {W : World} {fuel : Nat} {cs : List Value} {x : DataW H × List MemPlace} (h : DataW.trod enc Tryz.prog W 0 (fun _ => true) true fuel 63 cs = some x) :
    ∃ o : OpL, cs = o.cells ∧ OpLIn W o ∧ ∀ R : Nat, (∀ n ∈ DataW.weights Tryz.prog 63 x.1, n ≤ R) → OpLSz R o := by
  obtain ⟨xs, n, _, hx, hl, hlen, hf⟩ := DataW.trod_struct Tryz.underlying63 h
  rw [show Tryz.prog.cellsOf 63 = 5 by kernel_rfl] at hl
  match cs, hl with
  | [c0, c3, c4, c5, c6], _ =>
    match xs, hlen with
    | [y0, y3, y4, y5], _ =>
      have h0 : DataW.trod enc Tryz.prog W 0 (fun _ => true) true n 5 (([c0, c3, c4, c5, c6].drop 0).take (Tryz.prog.cellsOf 5)) = some y0 := hf 0 _ rfl
      have h3 : DataW.trod enc Tryz.prog W 0 (fun _ => true) true n 22 (([c0, c3, c4, c5, c6].drop 1).take (Tryz.prog.cellsOf 22)) = some y3 := hf 1 _ rfl
      have h4 : DataW.trod enc Tryz.prog W 0 (fun _ => true) true n 2 (([c0, c3, c4, c5, c6].drop 2).take (Tryz.prog.cellsOf 2)) = some y4 := hf 2 _ rfl
      have h5 : DataW.trod enc Tryz.prog W 0 (fun _ => true) true n 61 (([c0, c3, c4, c5, c6].drop 3).take (Tryz.prog.cellsOf 61)) = some y5 := hf 3 _ rfl
      rw [show Tryz.prog.cellsOf 5 = 1 by kernel_rfl] at h0
      rw [show Tryz.prog.cellsOf 22 = 1 by kernel_rfl] at h3
      rw [show Tryz.prog.cellsOf 2 = 1 by kernel_rfl] at h4
      rw [show Tryz.prog.cellsOf 61 = 2 by kernel_rfl] at h5
      obtain ⟨k, e0, _, w0⟩ := DataW.trod_int Tryz.underlying5 h0
      obtain ⟨v3, bs, e3, hb3, hw3⟩ := came_bytes h3
      obtain ⟨m, e4, _, w4⟩ := DataW.trod_int Tryz.underlying2 h4
      obtain ⟨dn, ka, ks, kc, e5, hb5, hn5, hw5⟩ := came_fate h5
      simp at e0 e3 e4 e5
      have hb0 : 0 ≤ k ∧ k ≤ 255 := by simpa [Lit.wf, IntKind.min, IntKind.max, IntKind.signed, IntKind.bits] using w0
      have hb4 : -9223372036854775808 ≤ m ∧ m ≤ 9223372036854775807 := by simpa [Lit.wf, IntKind.min, IntKind.max, IntKind.signed, IntKind.bits] using w4
      have hBs := hb3
      obtain ⟨_, pa, pc, hv3, _⟩ := hb3
      refine ⟨⟨k.toNat, pa, pc, bs, m, dn, ka, kc, ks⟩, ?_, ⟨by show k.toNat < 256; omega, by rw [hv3] at hBs; exact hBs, hb5, hn5, hb4⟩, fun R hR => ?_⟩
      · rw [e0, e3, hv3, e4, e5.1, e5.2]
        show _ = [Value.int .u8 ((k.toNat : Nat) : Int), _, _, _, _]
        rw [show ((k.toNat : Nat) : Int) = k by omega]
      · rw [hx] at hR
        have hW : DataW.weights Tryz.prog 63 (DataW.agg ([y0, y3, y4, y5].map (·.1))) = DataW.weights Tryz.prog 5 y0.1 ++ (DataW.weights Tryz.prog 22 y3.1 ++ (DataW.weights Tryz.prog 2 y4.1 ++ (DataW.weights Tryz.prog 61 y5.1 ++ []))) := by
          conv => lhs; unfold DataW.weights
          rw [Tryz.underlying63]
          rfl
        rw [hW] at hR
        exact ⟨hw3 R (fun q hq => hR q (by simp [hq])), hw5 R (fun q hq => hR q (by simp [hq]))⟩
theorem came_opsL {H : Type} {enc : TypeId × Value → H} {W : World} {fuel : Nat} {a : Option Addr} {len cap R : Nat} {d : DataW H} {p : List MemPlace} (h : DataW.trod enc Tryz.prog W 0 (fun _ => true) true fuel 58 (Value.slice a len cap).cells.toList = some (d, p))
    (hR : ∀ n ∈ DataW.weights Tryz.prog 58 d, n ≤ R) : ∃ os, Sl KOL W (.slice a len cap) os ∧ (∀ o ∈ os, OpLIn W o ∧ OpLSz R o) ∧ os.length ≤ R := by
  haveI : Inhabited OpL := ⟨⟨0, none, 0, [], 0, false, none, 0, []⟩⟩
  obtain ⟨v, os, hcs, hs, hno, hw⟩ := came_rows KOL (by kernel_rfl) (fun o d => OpLIn W o ∧ ∀ R : Nat, (∀ n ∈ DataW.weights Tryz.prog 63 d, n ≤ R) → OpLSz R o) (fun fuel cs x h => came_opL h) h
  obtain rfl : v = .slice a len cap := by simpa [Value.cells] using hcs.symm
  rcases hw with ⟨_, rfl⟩ | ⟨el, sp, h1, h2, h3⟩
  · exact ⟨[], hs, fun o ho => (by cases ho), by simp⟩
  · have h1' : d = .slice el sp := h1
    rw [h1'] at hR
    obtain ⟨h4, h5⟩ := w_slice Tryz.underlying58 hR
    refine ⟨os, hs, fun o ho => ?_, ?_⟩
    · obtain ⟨i, hi⟩ := List.getElem?_of_mem ho
      obtain ⟨dd, hd, hp⟩ := h3 i o hi
      exact ⟨hp.1, hp.2 R (h5 i dd hd)⟩
    · rw [show Tryz.prog.bytesOf 63 = 72 by kernel_rfl] at h4
      omega
end Go.Proofs.YtkmdegmpffgplaaGreatDoor
