/- snap XVI: a Write that the power leaves, in plain words. -/
import Derived.Test.YtgabklihgjjjeaaGreatDoorPA
namespace Go.Proofs.YtgabklihgjjjeaaGreatDoor
open Go.RowKit Go.Maps Go.Sort Go.Shelf pk
set_option linter.unusedVariables false
set_option linter.unusedSimpArgs false
/-- a file is synced whole -/
def Synd (fs : FS) (n : Nat) : Prop := ∀ t, lk fs (nmS n) = some t → t.2.2 = t.2.1.length
theorem Synd.lk {fs gs : FS} {n : Nat} (h : Synd fs n) (e : lk gs (nmS n) = lk fs (nmS n)) : Synd gs n := fun t ht => h t (by rw [← e]; exact ht)
theorem lk_stl_syn {ks : List Bool} {ns : List (List UInt8)} {fs : FS} (hp : ns.Perm (nms fs)) (hnd : (nms fs).Nodup) {n : Nat} (h : Synd fs n) : lk (stl ks ns fs).1 (nmS n) = lk fs (nmS n) := by
  cases hl : lk fs (nmS n) with
  | none =>
    rw [lk_none, nms_stl]
    exact (lk_none fs _).1 hl
  | some t =>
    obtain ⟨i, hi⟩ := lk_stl (ks := ks) hp hnd hl
    have e := h t hl
    rw [hi, e, zf_start]
    obtain ⟨n', ss, sy⟩ := t
    have e1 : n' = nmS n := (lk_nm hl).1
    have e2 : sy = ss.length := e
    rw [e1, e2]
theorem totA_upd1 (fs : FS) (l : List UInt8) (t : List UInt8 × List (List Nat) × Nat) (hnd : (nms fs).Nodup) (h : lk fs l = some t) (ss : List (List Nat)) (sy : Nat) (hs : ss.length = t.2.1.length) : totA (upd1 fs l ss sy) ≤ totA fs := by
  induction fs with
  | nil => exact Nat.le_refl _
  | cons a fs ih =>
    obtain ⟨h1, h2⟩ := List.nodup_cons.1 (show (a.1 :: nms fs).Nodup from hnd)
    rw [upd1_map, List.map_cons]
    by_cases e : a.1 = l
    · have ea : a = t := by
        unfold lk at h
        rw [List.find?_cons, show (a.1 == l) = true by simp [e]] at h
        simpa using h
      have er : fs.map (fun t => if t.1 = l then (t.1, ss, sy) else t) = fs := by
        conv => rhs; rw [← List.map_id fs]
        refine List.map_congr_left (fun u hu => ?_)
        have : u.1 ≠ l := fun e2 => h1 (by rw [e, ← e2]; exact List.mem_map.2 ⟨u, hu, rfl⟩)
        rw [if_neg this]
        rfl
      rw [er, if_pos e]
      show ss.length + totA fs ≤ a.2.1.length + totA fs
      rw [hs, ea]
      exact Nat.le_refl _
    · have h' : lk fs l = some t := by
        unfold lk at h ⊢
        rw [List.find?_cons, show (a.1 == l) = false by simpa using e] at h
        exact h
      have := ih h2 h'
      rw [upd1_map] at this
      rw [if_neg e]
      show a.2.1.length + totA _ ≤ a.2.1.length + totA fs
      omega
theorem tot_stl_aux (ks : List Bool) (ns : List (List UInt8)) : ∀ st : FS × Nat, (nms st.1).Nodup → totA (ns.foldl (stp ks) st).1 ≤ totA st.1 := by
  induction ns with
  | nil => intro st _; exact Nat.le_refl _
  | cons n ns ih =>
    intro st hnd
    show totA (ns.foldl (stp ks) (stp ks st n)).1 ≤ _
    cases h : lk st.1 n with
    | none =>
      have e : stp ks st n = st := by unfold stp; unfold lk at h; rw [h]
      rw [e]
      exact ih st hnd
    | some t =>
      have e : stp ks st n = (upd1 st.1 n (zf ks st.2 t.2.2 t.2.1.length t.2.1) t.2.1.length, st.2 + (t.2.1.length - t.2.2)) := by
        unfold stp
        unfold lk at h
        rw [h]
      have h2 := ih (stp ks st n) (by rw [e]; show (nms (upd1 _ _ _ _)).Nodup; rw [nms_upd1]; exact hnd)
      refine Nat.le_trans h2 ?_
      rw [e]
      exact totA_upd1 st.1 n t hnd h _ _ (zf_len _ _ _ _ _)
theorem tot_stl (ks : List Bool) (ns : List (List UInt8)) (fs : FS) (h : (nms fs).Nodup) : totA (stl ks ns fs).1 ≤ totA fs := tot_stl_aux ks ns (fs, 0) h
/-- between the writes: the elder one is there, perhaps the new one -/
structure Mid (g : FS) (p q : List Nat) : Prop where
  snaps : Snaps g (fun i => if i = 8 then q else p)
  syn : ∀ n, Synd g n
  has : nmS 3 ∈ nms g
  only : ∀ n, n ≤ 999999999999 → nmS n ∈ nms g → n = 3 ∨ n = 8
  len : g.length ≤ 3
  tot : totA g ≤ 100
theorem Mid.stl {g : FS} {p q : List Nat} (h : Mid g p q) {ks : List Bool} {ns : List (List UInt8)} (hp : ns.Perm (nms g)) (hnd : (nms g).Nodup) : Mid (stl ks ns g).1 p q := by
  have hn : ∀ l, l ∈ nms (Go.Proofs.YtgabklihgjjjeaaGreatDoor.stl ks ns g).1 ↔ l ∈ nms g := fun l => by rw [nms_stl]
  have hl : ∀ n, lk (Go.Proofs.YtgabklihgjjjeaaGreatDoor.stl ks ns g).1 (nmS n) = lk g (nmS n) := fun n => lk_stl_syn hp hnd (h.syn n)
  refine ⟨⟨fun l hl => h.snaps.snp l ((hn l).1 hl), fun n h1 h2 => (h.snaps.whl n h1 ((hn _).1 h2)).lk (hl n)⟩, fun n => (h.syn n).lk (hl n), (hn _).2 h.has, fun n h1 h2 => h.only n h1 ((hn _).1 h2), ?_, Nat.le_trans (tot_stl ks ns g hnd) h.tot⟩
  have := congrArg List.length (nms_stl ks ns g)
  simp only [nms, List.length_map] at this
  rw [this]
  exact h.len
/-- the elder one -/
def fsp (p : List Nat) : FS := wfs [] 3 p
def fsa (p q : List Nat) : FS := apd (fsp p) nmT (parts (secS q))
def fsb (p q : List Nat) : FS := doOp ⟨1, nmT, [], 0⟩ (fsa p q)
def fsc (p q : List Nat) : FS := wfs (fsp p) 8 q
theorem no0 : nmT ∉ nms [] := by simp [nms]
theorem nop (p : List Nat) : nmT ∉ nms (fsp p) := nmT_wfs [] 3 p no0
theorem syn_wfs {fs : FS} (hno : nmT ∉ nms fs) (k : Nat) (bs : List Nat) (h : ∀ n, Synd fs n) (n : Nat) : Synd (wfs fs k bs) n := by
  by_cases e : nmS n = nmS k
  · intro t ht
    rw [e, lk_wfs_same fs k bs hno] at ht
    cases ht
    rfl
  · exact (h n).lk (lk_wfs_other fs k bs hno _ e (nmS_ne n))
theorem syn_nil (n : Nat) : Synd [] n := fun t ht => by cases ht
theorem lk_fsa (p q : List Nat) (n : Nat) : lk (fsa p q) (nmS n) = lk (fsp p) (nmS n) := lk_apd_other _ _ _ _ (nmS_ne n)
theorem lk_fsb (p q : List Nat) (n : Nat) : lk (fsb p q) (nmS n) = lk (fsp p) (nmS n) := by
  unfold fsb
  rw [sync_fs, lk_map _ _ (fun t => by split <;> rfl), lk_fsa]
  cases hl : lk (fsp p) (nmS n) with
  | none => rfl
  | some t =>
    have e := (lk_nm hl).1
    simp [e, nmS_ne n]
theorem nms_fsa (p q : List Nat) (l : List UInt8) : l ∈ nms (fsa p q) ↔ l ∈ nms (fsp p) ∨ l = nmT := by
  unfold fsa
  rw [nms_apd, if_neg (nop p)]
  simp
theorem nms_fsb (p q : List Nat) (l : List UInt8) : l ∈ nms (fsb p q) ↔ l ∈ nms (fsp p) ∨ l = nmT := by
  unfold fsb
  rw [sync_fs, nms_map _ _ (fun t => by split <;> rfl), nms_fsa]
theorem nms_fsp (p : List Nat) (l : List UInt8) : l ∈ nms (fsp p) ↔ l = nmS 3 := by
  unfold fsp
  rw [nms_wfs [] 3 p no0]
  simp [nms]
theorem snaps_fsp {p : List Nat} (hb : By p) (h0 : 0 < p.length) (hl : p.length ≤ 500) (q : List Nat) : Snaps (fsp p) (fun i => if i = 8 then q else p) := by
  have h := (snaps_nil (fun _ => p)).write no0 (show 3 ≤ 999999999999 by omega) hb h0 (Nat.le_trans hl (by omega))
  refine ⟨h.snp, fun n hn hm => ?_⟩
  have e : n = 3 := nmS_inj hn (by omega) ((nms_fsp p _).1 hm)
  subst e
  have := h.whl 3 hn hm
  simp only [if_true] at this
  exact this
theorem cn4_500 {L : Nat} (h : L ≤ 500) : cn4 (L + 4) ≤ 21 := by unfold cn4; omega
theorem len_fsp (p : List Nat) : (fsp p).length ≤ 1 := by have := len_wfs [] 3 p no0; simp only [List.length_nil] at this; exact this
theorem tot_fsp {p : List Nat} (hl : p.length ≤ 500) : totA (fsp p) ≤ 42 := by
  have := tot_wfs [] 3 p no0
  have e := cn4_500 hl
  have e2 : totA [] = 0 := rfl
  unfold fsp
  omega
theorem parts_q {q : List Nat} (hl : q.length ≤ 500) : (parts (secS q)).length ≤ 21 := by
  have hp : (parts (secS q)).length = cn4 (q.length + 4) := by rw [parts_len, secS_len]; unfold cnt; omega
  rw [hp]
  exact cn4_500 hl
section
variable {p q : List Nat} (hb : By p) (h0 : 0 < p.length) (hl : p.length ≤ 500) (hb' : By q) (h0' : 0 < q.length) (hl' : q.length ≤ 500)
include hb h0 hl hl'
theorem mid_a : Mid (fsa p q) p q := by
  have S := snaps_fsp hb h0 hl q
  have sy := syn_wfs no0 3 p syn_nil
  refine ⟨⟨fun l h => ?_, fun n h1 h2 => ?_⟩, fun n => (sy n).lk (lk_fsa p q n), (nms_fsa p q _).2 (Or.inl ((nms_fsp p _).2 rfl)), fun n h1 h2 => ?_, ?_, ?_⟩
  · exact ((nms_fsa p q l).1 h).elim (S.snp l) Or.inl
  · exact (S.whl n h1 (((nms_fsa p q _).1 h2).resolve_right (nmS_ne n))).lk (lk_fsa p q n)
  · exact Or.inl (nmS_inj h1 (by omega) ((nms_fsp p _).1 (((nms_fsa p q _).1 h2).resolve_right (nmS_ne n))))
  · have := len_apd (fsp p) (parts (secS q)) (nop p)
    have := len_fsp p
    unfold fsa
    omega
  · have := tot_apd (fsp p) nmT (parts (secS q))
    have := tot_fsp hl
    have := parts_q hl'
    unfold fsa
    omega
theorem mid_b : Mid (fsb p q) p q := by
  have S := snaps_fsp hb h0 hl q
  have sy := syn_wfs no0 3 p syn_nil
  have M := mid_a hb h0 hl hl'
  refine ⟨⟨fun l h => ?_, fun n h1 h2 => ?_⟩, fun n => (sy n).lk (lk_fsb p q n), (nms_fsb p q _).2 (Or.inl ((nms_fsp p _).2 rfl)), fun n h1 h2 => ?_, ?_, ?_⟩
  · exact ((nms_fsb p q l).1 h).elim (S.snp l) Or.inl
  · exact (S.whl n h1 (((nms_fsb p q _).1 h2).resolve_right (nmS_ne n))).lk (lk_fsb p q n)
  · exact Or.inl (nmS_inj h1 (by omega) ((nms_fsp p _).1 (((nms_fsb p q _).1 h2).resolve_right (nmS_ne n))))
  · unfold fsb
    rw [sync_fs, List.length_map]
    exact M.len
  · refine Nat.le_trans ?_ M.tot
    unfold fsb
    rw [sync_fs]
    exact tot_map_le _ _ (fun t => by split <;> exact Nat.le_refl _)
include hb' h0'
theorem mid_c : Mid (fsc p q) p q := by
  have S := snaps_fsp hb h0 hl q
  have sy := syn_wfs no0 3 p syn_nil
  have hm := nms_wfs (fsp p) 8 q (nop p)
  have W := S.write (nop p) (show 8 ≤ 999999999999 by omega) hb' h0' (Nat.le_trans hl' (by omega))
  refine ⟨⟨W.snp, fun n h1 h2 => ?_⟩, syn_wfs (nop p) 8 q sy, (hm _).2 (Or.inr ((nms_fsp p _).2 rfl)), fun n h1 h2 => ?_, ?_, ?_⟩
  · have := W.whl n h1 h2
    by_cases e : n = 8
    · simp only [e, if_true] at this ⊢
      exact this
    · simp only [e, if_false] at this ⊢
      exact this
  · rcases (hm _).1 h2 with e | e
    · exact Or.inr (nmS_inj h1 (by omega) e)
    · exact Or.inl (nmS_inj h1 (by omega) ((nms_fsp p _).1 e))
  · have := len_wfs (fsp p) 8 q (nop p)
    have := len_fsp p
    unfold fsc
    omega
  · have := tot_wfs (fsp p) 8 q (nop p)
    have := tot_fsp hl
    have := cn4_500 hl'
    unfold fsc
    omega
end
theorem wrS_2 {x x1 x2 : AD} {n : Nat} {bs : List Nat} (h1 : wr1 x = (0, x1)) (h2 : wr2 x1 bs = (18, x2)) : wrS x n bs = (18, x2) := by
  unfold wrS
  rw [h1, h2]
  rfl
theorem wrS_3 {x x1 x2 x3 : AD} {n : Nat} {bs : List Nat} (h1 : wr1 x = (0, x1)) (h2 : wr2 x1 bs = (0, x2)) (h3 : wr3 x2 = (18, x3)) : wrS x n bs = (18, x3) := by
  unfold wrS
  rw [h1]
  dsimp only
  rw [h2]
  dsimp only
  rw [h3]
  rfl
theorem wrS_4 {x x1 x2 x3 : AD} {n : Nat} {bs : List Nat} (h1 : wr1 x = (0, x1)) (h2 : wr2 x1 bs = (0, x2)) (h3 : wr3 x2 = (0, x3)) : wrS x n bs = wr4 x3 n := by
  unfold wrS
  rw [h1]
  dsimp only
  rw [h2]
  dsimp only
  rw [h3]
  rfl
/-- the power goes at the a-th operation, or doesn't -/
theorem wrS_armed {p q : List Nat} (hl : p.length ≤ 500) (hl' : q.length ≤ 500) (o a : Nat) (ha : a ≤ 5) :
    (∃ l, l ≤ 2 ∧ wrS ⟨1000, o, a, true, none, fsp p⟩ 8 q = (0, ⟨1000, o + 1 + 1 + 1, l, true, none, fsc p q⟩)) ∨
    (∃ o' u g, o' ≤ o + 3 ∧ wrS ⟨1000, o, a, true, none, fsp p⟩ 8 q = (18, ⟨1000, o', 0, false, u, g⟩) ∧ ((u = none ∧ g = fsa p q) ∨ (u = some ⟨1, nmT, [], 0⟩ ∧ g = fsa p q) ∨ (u = some ⟨3, nmT, nmS 8, 0⟩ ∧ g = fsb p q))) := by
  have hfit : fitA 1000 (fsp p) nmT (cnt (secS q).length) = true := fit_idle (by have := len_fsp p; omega) (by have := tot_fsp hl; have := cn4_500 hl'; omega)
  have e0 : ∀ a, oper ⟨1000, o, a, true, none, fsp p⟩ ⟨4, nmT, [], 0⟩ = (7, ⟨1000, o, a, true, none, fsp p⟩) := fun a => oper_none nmT_is (fun h => by cases h) ((lk_none _ nmT).2 (nop p))
  have e1 : ∀ a, wr1 ⟨1000, o, a, true, none, fsp p⟩ = (0, ⟨1000, o, a, true, none, fsp p⟩) := fun a => by unfold wr1; rw [e0]; rfl
  have e2 : ∀ a, wr2 ⟨1000, o, a, true, none, fsp p⟩ q = (if (begA ⟨1000, o, a, true, none, fsp p⟩).on then 0 else 18, { begA ⟨1000, o, a, true, none, fsp p⟩ with fs := fsa p q }) := fun a => apnd_ok nmT_is hfit rfl
  have l1 : (lk (fsa p q) nmT).isSome = true := by unfold fsa; rw [lk_apd_same]; rfl
  have l2 : (lk (fsb p q) nmT).isSome = true := by
    unfold fsb
    rw [sync_fs, lk_map _ _ (fun t => by split <;> rfl)]
    rw [Option.isSome_map]
    exact l1
  have e3 : ∀ o a, wr3 ⟨1000, o, a, true, none, fsa p q⟩ = if (begA ⟨1000, o, a, true, none, fsa p q⟩).on then (0, { begA ⟨1000, o, a, true, none, fsa p q⟩ with fs := fsb p q }) else (18, { begA ⟨1000, o, a, true, none, fsa p q⟩ with und := some ⟨1, nmT, [], 0⟩ }) := fun o a => oper_on nmT_is (fun h => by cases h) l1 rfl
  have e4 : ∀ o a, wr4 ⟨1000, o, a, true, none, fsb p q⟩ 8 = if (begA ⟨1000, o, a, true, none, fsb p q⟩).on then (0, { begA ⟨1000, o, a, true, none, fsb p q⟩ with fs := fsc p q }) else (18, { begA ⟨1000, o, a, true, none, fsb p q⟩ with und := some ⟨3, nmT, nmS 8, 0⟩ }) := fun o a => oper_on nmT_is (fun _ => nmS_is 8) l2 rfl
  match a, ha with
  | 0, _ => exact Or.inl ⟨0, by omega, (wrS_4 (e1 0) (show wr2 ⟨1000, o, 0, true, none, fsp p⟩ q = (0, ⟨1000, o + 1, 0, true, none, fsa p q⟩) from (e2 0).trans rfl) (show wr3 ⟨1000, o + 1, 0, true, none, fsa p q⟩ = (0, ⟨1000, o + 1 + 1, 0, true, none, fsb p q⟩) from (e3 (o + 1) 0).trans rfl)).trans (show wr4 ⟨1000, o + 1 + 1, 0, true, none, fsb p q⟩ 8 = (0, ⟨1000, o + 1 + 1 + 1, 0, true, none, fsc p q⟩) from (e4 (o + 1 + 1) 0).trans rfl)⟩
  | 4, _ => exact Or.inl ⟨1, by omega, (wrS_4 (e1 4) (show wr2 ⟨1000, o, 4, true, none, fsp p⟩ q = (0, ⟨1000, o + 1, 3, true, none, fsa p q⟩) from (e2 4).trans rfl) (show wr3 ⟨1000, o + 1, 3, true, none, fsa p q⟩ = (0, ⟨1000, o + 1 + 1, 2, true, none, fsb p q⟩) from (e3 (o + 1) 3).trans rfl)).trans (show wr4 ⟨1000, o + 1 + 1, 2, true, none, fsb p q⟩ 8 = (0, ⟨1000, o + 1 + 1 + 1, 1, true, none, fsc p q⟩) from (e4 (o + 1 + 1) 2).trans rfl)⟩
  | 5, _ => exact Or.inl ⟨2, by omega, (wrS_4 (e1 5) (show wr2 ⟨1000, o, 5, true, none, fsp p⟩ q = (0, ⟨1000, o + 1, 4, true, none, fsa p q⟩) from (e2 5).trans rfl) (show wr3 ⟨1000, o + 1, 4, true, none, fsa p q⟩ = (0, ⟨1000, o + 1 + 1, 3, true, none, fsb p q⟩) from (e3 (o + 1) 4).trans rfl)).trans (show wr4 ⟨1000, o + 1 + 1, 3, true, none, fsb p q⟩ 8 = (0, ⟨1000, o + 1 + 1 + 1, 2, true, none, fsc p q⟩) from (e4 (o + 1 + 1) 3).trans rfl)⟩
  | 1, _ => exact Or.inr ⟨o + 1, none, fsa p q, by omega, wrS_2 (e1 1) (show wr2 ⟨1000, o, 1, true, none, fsp p⟩ q = (18, ⟨1000, o + 1, 0, false, none, fsa p q⟩) from (e2 1).trans rfl), Or.inl ⟨rfl, rfl⟩⟩
  | 2, _ => exact Or.inr ⟨o + 1 + 1, (some ⟨1, nmT, [], 0⟩), fsa p q, by omega, wrS_3 (e1 2) (show wr2 ⟨1000, o, 2, true, none, fsp p⟩ q = (0, ⟨1000, o + 1, 1, true, none, fsa p q⟩) from (e2 2).trans rfl) (show wr3 ⟨1000, o + 1, 1, true, none, fsa p q⟩ = (18, ⟨1000, o + 1 + 1, 0, false, (some ⟨1, nmT, [], 0⟩), fsa p q⟩) from (e3 (o + 1) 1).trans rfl), Or.inr (Or.inl ⟨rfl, rfl⟩)⟩
  | 3, _ => exact Or.inr ⟨o + 1 + 1 + 1, (some ⟨3, nmT, nmS 8, 0⟩), fsb p q, by omega, (wrS_4 (e1 3) (show wr2 ⟨1000, o, 3, true, none, fsp p⟩ q = (0, ⟨1000, o + 1, 2, true, none, fsa p q⟩) from (e2 3).trans rfl) (show wr3 ⟨1000, o + 1, 2, true, none, fsa p q⟩ = (0, ⟨1000, o + 1 + 1, 1, true, none, fsb p q⟩) from (e3 (o + 1) 2).trans rfl)).trans (show wr4 ⟨1000, o + 1 + 1, 1, true, none, fsb p q⟩ 8 = (18, ⟨1000, o + 1 + 1 + 1, 0, false, (some ⟨3, nmT, nmS 8, 0⟩), fsb p q⟩) from (e4 (o + 1 + 1) 1).trans rfl), Or.inr (Or.inr ⟨rfl, rfl⟩)⟩
  | a + 6, h => omega
/-- what is there behind the crash -/
theorem mid_crash {p q : List Nat} (hb : By p) (h0 : 0 < p.length) (hl : p.length ≤ 500) (hb' : By q) (h0' : 0 < q.length) (hl' : q.length ≤ 500) {o : Nat} {u : Option POp} {g : FS} (dn : Bool)
    (h : (u = none ∧ g = fsa p q) ∨ (u = some ⟨1, nmT, [], 0⟩ ∧ g = fsa p q) ∨ (u = some ⟨3, nmT, nmS 8, 0⟩ ∧ g = fsb p q)) : Mid (doUnd ⟨1000, o, 0, false, u, g⟩ dn) p q := by
  have A := mid_a hb h0 hl hl'
  have B := mid_b hb h0 hl hl'
  have C := mid_c hb h0 hl hb' h0' hl'
  rcases h with ⟨rfl, rfl⟩ | ⟨rfl, rfl⟩ | ⟨rfl, rfl⟩
  · cases dn <;> exact A
  · cases dn
    · exact A
    · exact B
  · cases dn
    · exact B
    · exact C
end Go.Proofs.YtgabklihgjjjeaaGreatDoor
