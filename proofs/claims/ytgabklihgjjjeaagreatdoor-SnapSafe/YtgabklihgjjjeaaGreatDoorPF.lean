/- disk XVI: the names, sorted. -/
import Derived.Test.YtgabklihgjjjeaaGreatDoorDko
import Derived.Shelf.SlIter.Nil
import Derived.Shelf.SortM.Plain
import Derived.Shelf.SortM.SortNone
import Derived.Ground.GgzProg
import Derived.Ground.SlgmProg
namespace Go.Proofs.YtgabklihgjjjeaaGreatDoor
open Go.RowKit Go.Maps Go.Sort Go.Shelf pk
open Go.WideElems (Fit rd rg pl rd_key rd_val rg_of other_key)
set_option linter.unusedVariables false

shelf_lay_g SlLaysZ.n7 Ggz 7 at Tryz 79 as layKeys
shelf_lay_g SlLaysZ.n6 Ggz 6 at Tryz 78 as laySorted
shelf_lay_g SlLaysM.n6 Slgm 6 at Tryz 95 as laySort
theorem sortsIn (k : Nat) : AnyZ.SortsIn Tryz.prog laySorted_ren Fence.wide k :=
  ⟨fun blk off cap ss W hH hblk hsz => callsIn_wide.2 (AnyM.slices_Sort_string laySort blk off cap ss W hH hblk hsz), fun q cap W => callsIn_wide.2 (AnyM.slices_Sort_string_none laySort q cap W)⟩
theorem keys_in (mb : Option Nat) (W : World) : CallsIn Fence.wide 5 Tryz.prog 79 #[.map mb] W fun e w' => e = .returned (.func (.func 96) #[] #[.pointer (some ⟨W.heap.size, 0, none⟩)]) ∧ w' = W.alloc (.cells #[.map mb] 71) :=
  AnyZ.keys_in layKeys Fence.wide 5 trivial rfl mb W
set_option maxHeartbeats 1000000 in
theorem sorted_in (b nn : Nat) (D0 : DataW Value) (w : World) (hown : w.ownsMap Tryz.prog 9 heldR b nn D0) (hmax : Maps.size D0 ≤ 64) :
    CallsIn Fence.wide 5 Tryz.prog 78 #[.func (.func 96) #[] #[.pointer (some ⟨w.heap.size, 0, none⟩)]] (w.alloc (.cells #[.map (some b)] 71)) fun e w' =>
      ∃ (v : Value) (ss : List (List UInt8)), e = .returned v ∧ ss.Perm (strKeys D0) ∧ w'.ownsRow (w.alloc (.cells #[.map (some b)] 71)).heap.size 9 1 v ss.length ((ss.mergeSort (fun x y => decide (x ≤ y))).map encStr) ∧ (v = .slice none 0 0 ↔ ss = []) ∧ Below (w.alloc (.cells #[.map (some b)] 71)).heap.size (w.alloc (.cells #[.map (some b)] 71)) w' := by
  have hbl := hown.lt
  have hseq : SeqGives Fence.wide 2 Tryz.prog 96 #[.pointer (some ⟨w.heap.size, 0, none⟩)] encStr (fun ss => ss.Perm (strKeys D0)) (Maps.size D0) (w.alloc (.cells #[.map (some b)] 71)) :=
    AnyZ.keys_gives (ρ := layKeys_ren) { layKeys with } Fence.wide _ trivial rfl (by omega) w.heap.size b nn D0 _ (by simp) (by simp) (by
      obtain ⟨es, clock, hb, Ft, hs, hD⟩ := hown
      exact ⟨es, clock, (Below.heap_alloc _ _ b hbl).trans hb, Ft, hs, hD⟩)
  exact AnyZ.sorted_in laySorted Fence.wide 5 trivial trivial trivial trivial rfl (by omega) (sortsIn _) (enters_of Tryz.func95 (by kernel_rfl) rfl) 96 #[.pointer (some ⟨w.heap.size, 0, none⟩)] trivial (enters_of Tryz.func96 (by kernel_rfl) rfl) _ _ (by unfold maxLen; omega) (by omega) _ hseq
theorem names_perm {w : World} {b n : Nat} {es : List Ent} (h : MapF w 9 b n (mf es)) (hp : es.Pairwise Apart) (hn : ∀ e ∈ es, e.nm.length ≤ 16) : ∃ D : DataW Value, w.ownsMap Tryz.prog 9 heldR b n D ∧ Maps.size D = es.length ∧ (strKeys D).Perm (es.map (·.nm)) := by
  obtain ⟨D, ho, hf⟩ := h
  have hsz : Maps.size D = es.length := by
    obtain ⟨D', h1, h2⟩ := MapF.lenS ⟨D, ho, hf⟩ hp hn
    obtain ⟨ms, c, hb, _, _, rfl⟩ := ho
    obtain ⟨ms', c', hb', _, _, rfl⟩ := h1
    rw [hb] at hb'
    cases hb'
    exact h2
  refine ⟨D, ho, hsz, ?_⟩
  obtain ⟨ms, clock, hb, F, hs, rfl⟩ := ho
  have h1 := Maps.fit_apart keyedS F
  have hkey : ∀ q ∈ ms.toList.map (rg Tryz.prog 9 heldR), ∃ l : List UInt8, q.1 = .string l := fun q hq => by
    obtain ⟨e, he, rfl⟩ := List.mem_map.1 hq
    obtain ⟨y, hy⟩ := F.reads e he
    obtain ⟨s, _, h3, _⟩ := str_of (rd_key hy)
    rw [rg_of hy]
    exact ⟨_, h3⟩
  have hperm : ((ms.toList.map (rg Tryz.prog 9 heldR)).foldr DataW.insert []).Perm (ms.toList.map (rg Tryz.prog 9 heldR)) := Go.WideShapes.sorted_perm _
  show (((ms.toList.map (rg Tryz.prog 9 heldR)).foldr DataW.insert []).map fun q => strOf q.1).Perm _
  refine (hperm.map _).trans ?_
  have hnd : ((ms.toList.map (rg Tryz.prog 9 heldR)).map fun q => strOf q.1).Nodup := by
    refine List.pairwise_map.2 (List.Pairwise.imp_of_mem (fun {a b} ha hb' hab e => ?_) h1)
    obtain ⟨l, hl⟩ := hkey a ha
    obtain ⟨l', hl'⟩ := hkey b hb'
    rw [hl, hl'] at e hab
    exact hab (by congr 1)
  have hnd2 : (es.map (·.nm)).Nodup := List.pairwise_map.2 (hp.imp (fun h => h.1))
  have hin : ∀ kl, Maps.has (.map ((ms.toList.map (rg Tryz.prog 9 heldR)).foldr DataW.insert [])) kl = true ↔ kl ∈ (ms.toList.map (rg Tryz.prog 9 heldR)).map (·.1) := fun kl => by
    constructor
    · intro hh
      obtain ⟨q, hq, hk⟩ := List.any_eq_true.1 hh
      rw [← WideAt.sameKey_eq hk]
      exact List.mem_map.2 ⟨q, mem_sorted.1 hq, rfl⟩
    · intro hh
      obtain ⟨q, hq, rfl⟩ := List.mem_map.1 hh
      obtain ⟨e, he, rfl⟩ := List.mem_map.1 hq
      obtain ⟨y, hy⟩ := F.reads e he
      refine List.any_eq_true.2 ⟨rg Tryz.prog 9 heldR e, mem_sorted.2 (List.mem_map.2 ⟨e, he, rfl⟩), ?_⟩
      rw [rg_of hy]
      exact WideAt.sameKey_self (keyedS.key (rd_key hy))
  refine (List.perm_ext_iff_of_nodup hnd hnd2).2 (fun l => ⟨fun hl => ?_, fun hl => ?_⟩)
  · obtain ⟨q, hq, rfl⟩ := List.mem_map.1 hl
    obtain ⟨e, he, rfl⟩ := List.mem_map.1 hq
    obtain ⟨y, hy⟩ := F.reads e he
    have hh := (hin _).2 (List.mem_map.2 ⟨_, hq, rfl⟩)
    obtain ⟨s, _, h3, _⟩ := str_of (rd_key hy)
    rw [rg_of hy] at hh ⊢
    rw [(hf _ _ (rd_key hy)).1] at hh
    obtain ⟨c, hc⟩ := Option.isSome_iff_exists.1 hh
    obtain ⟨e', h4, h5, _⟩ := mf_some hc
    have h6 : y.1 = Lit.string e'.nm := h5
    show strOf y.1 ∈ _
    rw [h6]
    exact List.mem_map.2 ⟨e', h4, rfl⟩
  · obtain ⟨e, he, rfl⟩ := List.mem_map.1 hl
    have hh : Maps.has (.map ((ms.toList.map (rg Tryz.prog 9 heldR)).foldr DataW.insert [])) (.string e.nm) = true := by
      rw [(hf _ _ (nm_key (hn e he))).1]
      show ((fd es e.nm).map _).isSome = true
      rw [fd_of hp he]
      rfl
    obtain ⟨q, hq, hq2⟩ := List.mem_map.1 ((hin _).1 hh)
    exact List.mem_map.2 ⟨q, hq, by show strOf q.1 = e.nm; rw [hq2]; rfl⟩
/-- a new row of texts -/
def OwnN (w : World) (B : Nat) (v : Value) (ns : List (List UInt8)) : Prop := w.ownsRow B 9 1 v ns.length (ns.map encStr)
theorem sorted_ok (w : World) (B p m : Nat) (x : DK) (h : Dsk w B p m x) :
    Calls Tryz.prog 61 #[ptr p] w fun e w' => ∃ v ns, e = .returned v ∧ ns.Perm (x.es.map (·.nm)) ∧ ns.Pairwise (fun a b => a ≤ b) ∧ OwnN w' w.heap.size v ns ∧ (v = .slice none 0 0 ↔ ns = []) ∧ Below w.heap.size w w' := by
  obtain ⟨D, ho, hsz, hpm⟩ := names_perm h.mp h.ap (fun e he => (h.fil e he).nm)
  have y1 := h.va.cell 1 (v := .map (some m)) rfl
  have hmx : Maps.size D ≤ 64 := by rw [hsz]; exact h.fits.2.2
  have HPM := (show Hid _ from hpm)
  have HO : Hid (w.ownsMap Tryz.prog 9 heldR m x.es.length D) := ho
  clear h ho hsz hpm
  have hp : (ptr p) = .pointer (some ⟨p, 0, none⟩) := rfl
  rw [hp]
  refine (callsIn_wide (n := 6)).1 ?_
  have hfK : Fence.wide.fn 79 := trivial
  have hfS : Fence.wide.fn 78 := trivial
  refine callsIn_of_wp Tryz.func61 rfl trivial ?_ rfl
  simp only [Tryz.ntmps61, List.size_toArray, List.length_cons, List.length_nil, Nat.reduceAdd, Nat.reduceSub, Array.replicate_succ, Array.replicate_zero, List.push_toArray, List.append_toArray, List.nil_append, List.cons_append]
  gi_wp2_with (first | (gi_at_call 79; refine (keys_in _ _).mono ?_; rintro e w' ⟨rfl, rfl⟩) | (gi_at_call 78; refine (sorted_in m x.es.length D w HO.out hmx).mono ?_; rintro e w' ⟨v, ss, rfl, hS, hrow, hnil, hb⟩))
  go_ret
  have hms : (ss.mergeSort (fun x y => decide (x ≤ y))).Perm ss := List.mergeSort_perm _ _
  refine ⟨v, ss.mergeSort (fun x y => decide (x ≤ y)), rfl, (hms.trans hS).trans HPM.out, ?_, ?_, ?_, ((Below.refl _ w).alloc (Nat.le_refl _) _).trans (hb.mono (by simp))⟩
  · have := List.pairwise_mergeSort (le := fun x y : List UInt8 => decide (x ≤ y)) (fun a b c h1 h2 => by simp only [decide_eq_true_eq] at *; exact List.le_trans h1 h2) (fun a b => by simpa using List.le_total a b) ss
    exact this.imp (fun h => by simpa using h)
  · unfold OwnN
    rw [hms.length_eq]
    exact ownsRow_base_a hrow (by simp)
  · rw [hnil]
    exact ⟨fun e => by rw [e] at hms ⊢; exact hms.eq_nil, fun e => by rw [e] at hms; exact hms.symm.eq_nil⟩
end Go.Proofs.YtgabklihgjjjeaaGreatDoor
/- disk XVII: a sector of a row is stored; what Restart keeps. -/
namespace Go.Proofs.YtgabklihgjjjeaaGreatDoor
open Go.RowKit Go.Maps Go.Shelf pk
set_option linter.unusedVariables false

theorem cells_set (ss : List (List Nat)) (j : Nat) (d : List Nat) (hj : j < ss.length) : KS.cells (ss.set j d) = (KS.cells ss).take (j * 32) ++ sect d ++ (KS.cells ss).drop (j * 32 + 32) := by
  have e : ss = ss.take j ++ ss[j] :: ss.drop (j + 1) := by rw [List.getElem_cons_drop, List.take_append_drop]
  have h1 : (KS.cells (ss.take j)).length = j * 32 := by
    rw [KS.cells_len, List.length_take]
    show min j ss.length * 32 = j * 32
    congr 1
    omega
  have h2 : KS.cells ss = KS.cells (ss.take j) ++ (sect ss[j] ++ KS.cells (ss.drop (j + 1))) := by
    conv => lhs; rw [e]
    rw [KS.cells_app]
    rfl
  have h3 : ss.set j d = ss.take j ++ d :: ss.drop (j + 1) := by
    rw [List.set_eq_take_append_cons_drop, if_pos hj]
  have h4 : (sect ss[j]).length = 32 := sect_len _
  rw [h3, KS.cells_app]
  show KS.cells (ss.take j) ++ (sect d ++ KS.cells (ss.drop (j + 1))) = _
  have t1 : (KS.cells (ss.take j) ++ (sect ss[j] ++ KS.cells (ss.drop (j + 1)))).take (j * 32) = KS.cells (ss.take j) := List.take_left' h1
  have t2 : (KS.cells (ss.take j) ++ (sect ss[j] ++ KS.cells (ss.drop (j + 1)))).drop (j * 32 + 32) = KS.cells (ss.drop (j + 1)) := by
    rw [← List.append_assoc]
    exact List.drop_left' (by rw [List.length_append, h1, h4])
  rw [h2, t1, t2, List.append_assoc]
/-- f.sectors[j] = d -/
theorem stS {w : World} {B g n cap : Nat} {ss : List (List Nat)} (h : Own KS w B (.slice (some ⟨g, 0, none⟩) n cap) ss) (j : Nat) (hj : j < ss.length) (d : List Nat) :
    ∃ w', (storeCells ⟨g, j * 32, none⟩ (sect d)).run Tryz.prog w = .ok () w' ∧ Own KS w' B (.slice (some ⟨g, 0, none⟩) n cap) (ss.set j d) ∧ Upd g w w' := by
  rcases h.own.2 with ⟨e, _⟩ | ⟨g', cap', cur, e, hb, hg, hc1, hc2, hsz, htk⟩
  · cases e
  · cases e
    have hsz2 : cur.size = cap * 32 := hsz
    have htk2 : cur.toList.take (ss.length * 32) = KS.cells ss := htk
    have hle : j * 32 + 32 ≤ cur.size := by rw [hsz2]; omega
    have hr := run_storeCells_at (P := Tryz.prog) g (j * 32) 107 (sect d) 0 cur w hg (by rw [sect_len]; omega) (sect_one d)
    rw [sect_len, Nat.add_zero] at hr
    refine ⟨_, hr, ⟨?_, Or.inr ⟨g, cap, _, by rw [List.length_set], hb, setRow_heap w g _ _ _ _ hg, by rw [List.length_set]; exact hc1, hc2, ?_, ?_⟩⟩, upd_setRow w g _⟩
    · rw [KS.cells_len]
    · show (_ : List Value).toArray.size = cap * 32
      rw [List.size_toArray, List.length_append, List.length_append, List.length_take, List.length_drop, sect_len]
      have : cur.toList.length = cap * 32 := by rw [Array.length_toList, hsz2]
      omega
    · show ((_ : List Value).toArray.toList).take ((ss.set j d).length * 32) = KS.cells (ss.set j d)
      rw [cells_set ss j d hj, ← htk2, List.length_set]
      have hl : cur.toList.length = cap * 32 := by rw [Array.length_toList, hsz2]
      have hjs : j * 32 + 32 ≤ ss.length * 32 := by omega
      show (cur.toList.take (j * 32) ++ sect d ++ cur.toList.drop (j * 32 + 32)).take (ss.length * 32) = _
      rw [List.take_append, List.take_of_length_le (by rw [List.length_append, List.length_take, sect_len]; omega), List.length_append, List.length_take, sect_len, List.take_take, List.drop_take, show min (j * 32) (ss.length * 32) = j * 32 by omega, show ss.length * 32 - (min (j * 32) cur.toList.length + 32) = ss.length * 32 - (j * 32 + 32) by omega]
/-- the slice v holds the truth values ks -/
structure Bl (w : World) (v : Value) (ks : List Bool) : Prop where
  form : ∃ a c, v = .slice a ks.length c ∧ ks.length ≤ c ∧ c ≤ 9223372036854775807 ∧ (0 < ks.length → ∃ b off, a = some ⟨b, off, none⟩ ∧ ∀ i, i < ks.length → w.cell? ⟨b, off + i, none⟩ = some (.bool (ks.getD i false)))
theorem Bl.kee {w w' : World} {v : Value} {ks : List Bool} (h : Bl w v ks) (hs : Safe w v) (k : Kee w w') : Bl w' v ks := by
  obtain ⟨a, c, rfl, h1, h2, h3⟩ := h
  refine ⟨a, c, rfl, h1, h2, fun h0 => ?_⟩
  obtain ⟨b, off, rfl, hx⟩ := h3 h0
  obtain ⟨cs, T, z, hc, hT⟩ := hs b off _ _ rfl
  refine ⟨b, off, rfl, fun j hj => ?_⟩
  rw [← hx j hj]
  exact World.cell?_of_block ((k.blk _ _ _ _ hc hT).trans hc.symm)
/-- the sectors of a file, those from sy up to j made noughts that are not kept: the first one's flag is number i -/
def zf (ks : List Bool) (i sy j : Nat) (ss : List (List Nat)) : List (List Nat) := ss.mapIdx fun k s => if sy ≤ k ∧ k < j ∧ ks.getD (i + (k - sy)) false = false then [] else s
theorem zf_len (ks : List Bool) (i sy j : Nat) (ss : List (List Nat)) : (zf ks i sy j ss).length = ss.length := by simp [zf]
theorem zf_start (ks : List Bool) (i sy : Nat) (ss : List (List Nat)) : zf ks i sy sy ss = ss := by
  unfold zf
  refine List.ext_getElem? (fun k => ?_)
  rw [List.getElem?_mapIdx]
  cases ss[k]? with
  | none => rfl
  | some s => simp only [Option.map_some]; rw [if_neg (by omega)]
theorem zf_keep {ks : List Bool} {i sy j : Nat} {ss : List (List Nat)} (h : sy ≤ j) (hk : ks.getD (i + (j - sy)) false = true) : zf ks i sy (j + 1) ss = zf ks i sy j ss := by
  unfold zf
  refine List.ext_getElem? (fun k => ?_)
  rw [List.getElem?_mapIdx, List.getElem?_mapIdx]
  cases ss[k]? with
  | none => rfl
  | some s =>
    simp only [Option.map_some, Option.some.injEq]
    by_cases hkj : k = j
    · subst hkj
      rw [hk, if_neg (by simp), if_neg (by simp)]
    · have : (sy ≤ k ∧ k < j + 1 ∧ ks.getD (i + (k - sy)) false = false) ↔ (sy ≤ k ∧ k < j ∧ ks.getD (i + (k - sy)) false = false) := ⟨fun ⟨a, b, c⟩ => ⟨a, by omega, c⟩, fun ⟨a, b, c⟩ => ⟨a, by omega, c⟩⟩
      simp only [this]
theorem zf_zero {ks : List Bool} {i sy j : Nat} {ss : List (List Nat)} (h : sy ≤ j) (hk : ks.getD (i + (j - sy)) false = false) : zf ks i sy (j + 1) ss = (zf ks i sy j ss).set j [] := by
  unfold zf
  refine List.ext_getElem? (fun k => ?_)
  rw [List.getElem?_set, List.getElem?_mapIdx, List.getElem?_mapIdx, List.length_mapIdx]
  by_cases hkj : j = k
  · subst hkj
    rw [if_pos rfl]
    by_cases hl : j < ss.length
    · rw [if_pos hl, List.getElem?_eq_getElem hl]
      simp only [Option.map_some]
      rw [if_pos ⟨h, by omega, hk⟩]
    · rw [if_neg hl, List.getElem?_eq_none (by omega)]
      rfl
  · rw [if_neg hkj]
    cases ss[k]? with
    | none => rfl
    | some s =>
      simp only [Option.map_some, Option.some.injEq]
      have : (sy ≤ k ∧ k < j + 1 ∧ ks.getD (i + (k - sy)) false = false) ↔ (sy ≤ k ∧ k < j ∧ ks.getD (i + (k - sy)) false = false) := ⟨fun ⟨a, b, c⟩ => ⟨a, by omega, c⟩, fun ⟨a, b, c⟩ => ⟨a, by omega, c⟩⟩
      simp only [this]
end Go.Proofs.YtgabklihgjjjeaaGreatDoor
/- disk XVIII: settle. -/
namespace Go.Proofs.YtgabklihgjjjeaaGreatDoor
open Go.RowKit Go.Maps Go.Sort Go.Shelf pk
set_option linter.unusedVariables false

/-- one file more is settled -/
def stp (ks : List Bool) (st : List (List UInt8 × List (List Nat) × Nat) × Nat) (l : List UInt8) : List (List UInt8 × List (List Nat) × Nat) × Nat :=
  match st.1.find? (fun t => t.1 == l) with
  | some (_, ss, sy) => (upd1 st.1 l (zf ks st.2 sy ss.length ss) ss.length, st.2 + (ss.length - sy))
  | none => st
/-- the files of these names are settled, one behind another -/
def stl (ks : List Bool) (ns : List (List UInt8)) (fs : List (List UInt8 × List (List Nat) × Nat)) : List (List UInt8 × List (List Nat) × Nat) × Nat := ns.foldl (stp ks) (fs, 0)
theorem find_ab {es : List Ent} {l : List UInt8} {e : Ent} (h : fd es l = some e) : (ab es).find? (fun t => t.1 == l) = some (e.nm, e.ss, e.sy) := by
  unfold ab
  rw [List.find?_map]
  show ((fd es l).map _) = _
  rw [h]
  rfl
theorem OwnN.cells {w : World} {B : Nat} {v : Value} {ns : List (List UInt8)} (h : OwnN w B v ns) : ∃ a c, v = .slice a ns.length c ∧ ns.length ≤ c ∧ c ≤ 9223372036854775807 ∧ (∀ i l, ns[i]? = some l → ∃ g, a = some ⟨g, 0, none⟩ ∧ w.cell? ⟨g, i, none⟩ = some (.string ⟨l.toArray⟩) ∧ ∃ cs T z, w.heap[g]? = some (Obj.cells cs T z) ∧ ¬ Dt T) := by
  rcases h.2 with ⟨rfl, h0⟩ | ⟨g, cap, cur, rfl, hb, hg, h1, h2, h3, h4⟩
  · refine ⟨none, 0, by rw [h0], by omega, by omega, fun i l hi => ?_⟩
    have := (List.getElem?_eq_some_iff.1 hi).1
    omega
  · refine ⟨some ⟨g, 0, none⟩, cap, rfl, h1, by unfold maxLen at h2; omega, fun i l hi => ⟨g, rfl, ?_, _, _, _, hg, by unfold Dt; decide⟩⟩
    have hl := (List.getElem?_eq_some_iff.1 hi).1
    have := World.ownsRow.cellAt h i (by omega)
    rw [this, List.getElem?_map, hi]
    rfl
theorem zf_by {ss : List (List Nat)} (h : ∀ s ∈ ss, By s) (ks : List Bool) (i sy j : Nat) : ∀ s ∈ zf ks i sy j ss, By s := fun s hs => by
  unfold zf at hs
  obtain ⟨q, hq, rfl⟩ := List.mem_mapIdx.1 hs
  split
  · exact By.nil
  · exact h _ (List.getElem_mem _)
theorem e0 : sect [] = List.replicate 32 (Value.int .u8 0) := rfl
/-- f.sectors[j] = sector{} at the operation -/
theorem stSw {w : World} {ops : Array Oper} {rest : List Oper} {o : Oper} {a : Act} {Q : Exit → Act → World → Prop} (hgd : o.guard = none) (q y : Operand) (ho : o.op = .store 107 q y)
    (B g n cap j jj : Nat) (hq : a.eval q = .pointer (some ⟨g, jj, none⟩)) (hjj : jj = j * 32) (hy : a.eval y = .agg (List.replicate 32 (Value.int .u8 0)).toArray) (ss : List (List Nat)) (h : Own KS w B (.slice (some ⟨g, 0, none⟩) n cap) ss) (hj : j < ss.length)
    (k : ∀ w', Own KS w' B (.slice (some ⟨g, 0, none⟩) n cap) (ss.set j []) → Upd g w w' → wpList Tryz.prog ops Q rest (a.put o.dst undef) w') : wpList Tryz.prog ops Q (o :: rest) a w := by
  subst hjj
  obtain ⟨w', hst, h1, h2⟩ := stS h j hj []
  rw [e0] at hst
  refine wpList_plain hgd fun K hK => ?_
  have hrun : (storeVar 107 ⟨g, j * 32, none⟩ (.agg (List.replicate 32 (Value.int .u8 0)).toArray)).run Tryz.prog w = .ok () w' := by
    have hi := infoS1
    cases hq : Tryz.prog.info? 107 with
    | none => rw [hq] at hi; cases hi
    | some i =>
      rw [hq] at hi
      have hs : i.size = 32 := by simpa using hi
      simp [storeVar, sizeOf, typeInfo, hq, Value.cells, hs]
      exact hst
  unfold Oper.wp execOp
  simp only [ho, hq, hy, Instr.storeAt, Instr.sureAddr, Sem.run_bind, Sem.run_pure, Result.andThen_ok, hrun]
  exact hK _ _ (k w' h1 h2)
set_option maxRecDepth 100000 in
set_option maxHeartbeats 4000000 in
theorem settle_ok (w : World) (B p m : Nat) (x : DK) (h : Dsk w B p m x) (kv : Value) (ks : List Bool) (hk : Bl w kv ks) (hkl : ks.length ≤ 140737488355328) (hks : Safe w kv) :
    Calls Tryz.prog 35 #[ptr p, kv] w fun r w' => (∃ v, r = .returned v) ∧ (∃ ns, ns.Perm (x.es.map (·.nm)) ∧ ns.Pairwise (fun a b => a ≤ b) ∧ ∃ es', ab es' = (stl ks ns (ab x.es)).1 ∧ Dsk w' B p m { x with es := es' }) ∧ Kee w w' ∧ Below B w w' := by
  have HB0 : Hid (B ≤ w.heap.size) := (show B ≤ w.heap.size from Nat.le_trans h.lo.1 (Nat.le_of_lt h.va.lt))
  have HH := (show Hid _ from h)
  obtain ⟨ka, kc, hkv, hk1, hk2, hk3⟩ := hk.form
  have HKL : Hid (Bl w kv ks) := hk
  have HKS : Hid (Safe w kv) := hks
  clear h hk hks hk3
  subst hkv
  have hp : (ptr p) = .pointer (some ⟨p, 0, none⟩) := rfl
  rw [hp]
  go_enter Tryz.func35, Tryz.ntmps35
  go_wp2_with (go_at_call 61; refine (sorted_ok _ B p m x HH.out).mono ?_; rintro r w1 ⟨v, ns, rfl, hpm, hsr, hon, hnil, b1⟩; obtain ⟨na, nc, rfl, hnc, hnc2, hncell⟩ := hon.cells)
  have HPM := (show Hid _ from hpm)
  have HSR := (show Hid _ from hsr)
  have HNC := (show Hid _ from hncell)
  have HB1 := (show Hid _ from b1)
  have HD1 : Hid (Dsk w1 B p m x) := HH.out.step b1
  have HK1 : Hid (Bl w1 (.slice ka ks.length kc) ks) := HKL.out.kee HKS.out (Kee.bel b1)
  have HS1 : Hid (Safe w1 (.slice ka ks.length kc)) := HKS.out.kee (Kee.bel b1)
  have hN : ns.length ≤ 64 := by have := hpm.length_eq; rw [List.length_map] at this; rw [this]; exact HH.out.fits.2.2
  clear hpm hsr hon hnil b1 hncell
  generalize hNN : ns.length = N at *
  have HNN := (show Hid _ from hNN)
  generalize hKN : ks.length = KN at *
  have HKN := (show Hid _ from hKN)
  clear hNN hKN
  go_loopw [4, 12] (fun c i wr => ∃ (k cc : Nat) (es' : List Ent), k ≤ N ∧ i = .int .i64 (k : Int) ∧ c = .int .i64 (cc : Int) ∧ Hid (Dsk wr B p m { x with es := es' }) ∧ Hid ((ab es', cc) = stl ks (ns.take k) (ab x.es)) ∧ Hid (es'.map (·.nm) = x.es.map (·.nm)) ∧ cc ≤ k * 65536 ∧ Hid (Kee w1 wr) ∧ Hid (Below B w1 wr)) (fun _ i _ => N - (intOf i).toNat)
  case atStart => exact ⟨0, 0, x.es, Nat.zero_le _, rfl, rfl, HD1.out, rfl, rfl, by omega, Kee.refl _, Below.refl _ _⟩
  case round =>
    obtain ⟨k, cc, es', hkN, rfl, rfl, D, ST, NM, hcc, KE, BE⟩ := hrel
    by_cases hlt : k < N
    · have dk : (k : Int) < (N : Int) := by omega
      obtain ⟨nk, hnk⟩ : ∃ nk, ns[k]? = some nk := ⟨_, List.getElem?_eq_getElem (by rw [HNN.out]; exact hlt)⟩
      obtain ⟨gn, rfl, hcn, csn, Tn, zn, hbn, hTn⟩ := HNC.out k nk hnk
      have hcn2 : wr.cell? ⟨gn, k, none⟩ = some (.string ⟨nk.toArray⟩) := by
        rw [← hcn]
        exact World.cell?_of_block ((KE.out.blk _ _ _ _ hbn hTn).trans hbn.symm)
      obtain ⟨e, he, hen⟩ : ∃ e ∈ es', e.nm = nk := by
        have h1 : nk ∈ x.es.map (·.nm) := HPM.out.mem_iff.1 (List.mem_of_getElem? hnk)
        rw [← NM.out] at h1
        exact List.mem_map.1 h1
      have hfd : fd es' nk = some e := by rw [← hen]; exact fd_of D.out.ap he
      obtain ⟨l1, l2, hx, _, _⟩ := fd_split hfd
      have HX : Hid (es' = l1 ++ e :: l2) := hx
      have hnl : nk.length ≤ 16 := by rw [← hen]; exact (D.out.fil e he).nm
      have hlk := D.out.look (s := ⟨nk.toArray⟩) (by show nk.toArray.size ≤ _; simp; omega)
      simp only [hfd, Option.map_some, Option.getD_some] at hlk
      have hpe : (ptr e.q) = .pointer (some ⟨e.q, 0, none⟩) := rfl
      rw [hpe] at hlk
      have ym := D.out.va.cell 1 (v := .map (some m)) rfl
      have F := D.out.fil e he
      have hel : e.ss.length ≤ 65536 := D.out.flen hx
      obtain ⟨ea, ecap, hev, hec, hec2⟩ := F.row.form
      have yq0 := F.blk.cell 0 (v := e.v) rfl
      have yq1 := F.blk.cell 1 (v := .int .i64 e.sy) rfl
      rw [hev] at yq0
      have HF : Hid (Fil wr B e) := F
      have HEV := (show Hid _ from hev)
      have HFD := (show Hid _ from hfd)
      have HNK := (show Hid _ from hnk)
      have HEN := (show Hid _ from hen)
      have hsy := F.sy
      generalize hln : e.ss.length = ln at *
      have HLN := (show Hid _ from hln)
      generalize hsyy : e.sy = sy at *
      have HSY := (show Hid _ from hsyy)
      clear hx hfd F hev hnk hen hln hsyy he hcn hbn
      have dsy : (sy : Int) ≤ (ln : Int) := by omega
      have hccb : cc ≤ 4194304 := by have : k * 65536 ≤ 64 * 65536 := Nat.mul_le_mul_right _ (by omega); omega
      go_wp2_with fail
      rename World => w9
      go_loopw [4, 8] (fun c q wx => ∃ j : Nat, sy ≤ j ∧ j ≤ ln ∧ q = .int .i64 (j : Int) ∧ c = .int .i64 ((cc + (j - sy) : Nat) : Int) ∧ Hid (Own KS wx B (.slice ea ln ecap) (zf ks cc sy j e.ss)) ∧ Hid (VA wx e.q [.slice ea ln ecap, .int .i64 sy] 105) ∧ Hid (But (fun i => e.v.ownBlock = some i) w9 wx)) (fun _ q _ => ln - (intOf q).toNat)
      case atStart =>
        refine ⟨sy, Nat.le_refl _, hsy, rfl, by simp, ?_, ?_, But.refl _ _⟩
        · show Own KS _ B _ (zf ks cc sy sy e.ss)
          rw [zf_start, ← HEV.out]
          exact HF.out.row
        · have := HF.out.blk
          rw [HEV.out, HSY.out] at this
          exact this
      case round =>
        obtain ⟨j, hsj, hjl0, rfl, rfl, O, V, BT⟩ := hrel
        have z0 := V.out.cell 0 rfl
        have z1 := V.out.cell 1 rfl
        have fz1 := V.out.free 1
        have KX : Hid (Kee w9 wr) := kee_but BT.out (fun i hi cs T z hc => by
          obtain ⟨cs', hcs⟩ := row_blk HF.out.row hi
          rw [hcs] at hc
          cases hc
          exact .inr (.inr rfl))
        by_cases hjl : j < ln
        · have dj : (j : Int) < (ln : Int) := by omega
          obtain ⟨g, hea⟩ : ∃ g, ea = some ⟨g, 0, none⟩ := by
            rcases O.out.own.2 with ⟨e1, _⟩ | ⟨g, cp, cur, e1, _⟩
            · cases e1
              omega
            · cases e1
              exact ⟨g, rfl⟩
          subst hea
          have HNQ : Hid (g ≠ e.q) := (show g ≠ e.q from fun er => by
            obtain ⟨cs, hcs⟩ := row_blk O.out (g := g) rfl
            rw [er, V.out.blk] at hcs
            injection hcs with hcs
            injection hcs with _ hT _
            cases hT)
          have HVB : Hid (e.v.ownBlock = some g) := (show e.v.ownBlock = some g by rw [HEV.out]; rfl)
          obtain ⟨ci, hci⟩ : ∃ ci, ci = cc + (j - sy) := ⟨_, rfl⟩
          have HCI : Hid (ci = cc + (j - sy)) := hci
          rw [← hci]
          have hcib : ci ≤ 8388608 := by omega
          clear hci
          by_cases c1 : KN ≤ ci
          · have HKV : Hid (ks.getD ci false = false) := (show ks.getD ci false = false by rw [List.getD, List.getElem?_eq_none (by rw [HKN.out]; exact c1)]; rfl)
            have dc : (KN : Int) ≤ (ci : Int) := by omega
            have hjz : j < (zf ks cc sy j e.ss).length := by rw [zf_len, HLN.out]; exact hjl
            have HJZ := (show Hid _ from hjz)
            clear hjz
            go_wp2_with (refine stSw rfl _ _ rfl B g ln ecap j (j * 32) (by rfl) rfl (by rfl) _ O.out HJZ.out ?_; intro w5 o5 u5'; have HO5 : Hid (Own KS w5 B (.slice (some ⟨g, 0, none⟩) ln ecap) ((zf ks cc sy j e.ss).set j [])) := o5; have HU5 := (show Hid _ from u5'); clear o5 u5')
            go_roundw
            case rel =>
              refine ⟨j + 1, by omega, by omega, by simp, by rw [HCI.out]; congr 1; omega, ?_, ?_, ?_⟩
              · show Own KS _ B _ (zf ks cc sy (j + 1) e.ss)
                rw [zf_zero hsj (by rw [← HCI.out]; exact HKV.out)]
                exact HO5.out
              · exact V.out.upd HU5.out (fun er => HNQ.out er.symm)
              · exact BT.out.trans (HU5.out.but.mono (fun i (hi : i = g) => by rw [hi]; exact HVB.out)) (fun _ _ h => h)
            case measure => simp [intOf]; omega
          · have dc : (ci : Int) < (KN : Int) := by omega
            have BL := ((HK1.out.kee HS1.out KE.out).kee (HS1.out.kee KE.out) KX.out)
            obtain ⟨ka', kc', ek, _, _, hkc⟩ := BL.form
            cases ek
            obtain ⟨kb, koff, rfl, hkcell⟩ := hkc (by rw [HKN.out]; omega)
            have hkb := hkcell ci (by rw [HKN.out]; omega)
            cases hkv : ks.getD ci false
            · have HKV : Hid (ks.getD ci false = false) := hkv
              rw [hkv] at hkb
              clear hkcell hkv
              have hjz : j < (zf ks cc sy j e.ss).length := by rw [zf_len, HLN.out]; exact hjl
              have HJZ := (show Hid _ from hjz)
              clear hjz
              go_wp2_with (refine stSw rfl _ _ rfl B g ln ecap j (j * 32) (by rfl) rfl (by rfl) _ O.out HJZ.out ?_; intro w5 o5 u5'; have HO5 : Hid (Own KS w5 B (.slice (some ⟨g, 0, none⟩) ln ecap) ((zf ks cc sy j e.ss).set j [])) := o5; have HU5 := (show Hid _ from u5'); clear o5 u5')
              go_roundw
              case rel =>
                refine ⟨j + 1, by omega, by omega, by simp, by rw [HCI.out]; congr 1; omega, ?_, ?_, ?_⟩
                · show Own KS _ B _ (zf ks cc sy (j + 1) e.ss)
                  rw [zf_zero hsj (by rw [← HCI.out]; exact HKV.out)]
                  exact HO5.out
                · exact V.out.upd HU5.out (fun er => HNQ.out er.symm)
                · exact BT.out.trans (HU5.out.but.mono (fun i (hi : i = g) => by rw [hi]; exact HVB.out)) (fun _ _ h => h)
              case measure => simp [intOf]; omega
            · have HKV : Hid (ks.getD ci false = true) := hkv
              rw [hkv] at hkb
              clear hkcell hkv
              go_wp2_with fail
              go_roundw
              case rel =>
                refine ⟨j + 1, by omega, by omega, by simp, by rw [HCI.out]; congr 1; omega, ?_, V.out, BT.out⟩
                show Own KS _ B _ (zf ks cc sy (j + 1) e.ss)
                rw [zf_keep hsj (by rw [← HCI.out]; exact HKV.out)]
                exact O.out
              case measure => simp [intOf]; omega
        · obtain rfl : j = ln := by omega
          go_wp2_with fail
          have U4 := upd_set wr e.q 1 (.int .i64 (j : Int))
          have hb4 : But (XF e) w9 (wr.setCell ⟨e.q, 1, none⟩ (.int .i64 (j : Int))) := (BT.out.mono (Y := XF e) (fun i hi => .inr hi)).trans (U4.but.mono (Y := XF e) (fun i hi => .inl hi)) (fun _ _ h => h)
          have hf4 : Fil (wr.setCell ⟨e.q, 1, none⟩ (.int .i64 (j : Int))) B { e with v := e.v, ss := zf ks cc sy j e.ss, sy := j } := by
            refine ⟨?_, ?_, HF.out.lo, ?_, ?_, HF.out.nm⟩
            · rw [show ({ e with v := e.v, ss := zf ks cc sy j e.ss, sy := j } : Ent).v = _ from HEV.out]
              exact V.out.set 1 _
            · rw [show ({ e with v := e.v, ss := zf ks cc sy j e.ss, sy := j } : Ent).v = _ from HEV.out]
              refine O.out.blk (fun g hg => U4.block g (fun er => ?_))
              obtain ⟨cs, hcs⟩ := row_blk O.out hg
              rw [er, V.out.blk] at hcs
              injection hcs with hcs
              injection hcs with _ hT _
              cases hT
            · show j ≤ (zf ks cc sy j e.ss).length
              rw [zf_len, HLN.out]
              exact Nat.le_refl _
            · exact zf_by HF.out.byte _ _ _ _
          have hput := D.out.put (l1 := l1) (l2 := l2) (e' := { e with v := e.v, ss := zf ks cc sy j e.ss, sy := j }) HX.out hb4 hf4 rfl rfl (fun g hg => .inl hg) (by
            have h1 := D.out.fits.1
            have h2 : tot es' ≤ x.room := h1
            rw [HX.out, tot_app] at h2
            simp only [tot] at h2
            show tot l1 + (zf ks cc sy j e.ss).length + tot l2 ≤ x.room
            rw [zf_len]
            omega)
          have hab : ab (l1 ++ { e with v := e.v, ss := zf ks cc sy j e.ss, sy := j } :: l2) = upd1 (ab es') nk (zf ks cc sy j e.ss) j := by
            have ap : es'.Pairwise Apart := D.out.ap
            rw [HX.out] at ap
            rw [ab_upd ap, ← HX.out, HEN.out]
          have hstl : stl ks (ns.take (k + 1)) (ab x.es) = (upd1 (ab es') nk (zf ks cc sy j e.ss) j, cc + (j - sy)) := by
            have h1 : stl ks (ns.take (k + 1)) (ab x.es) = stp ks (stl ks (ns.take k) (ab x.es)) nk := by
              unfold stl
              rw [List.take_add_one, HNK.out, List.foldl_append]
              rfl
            rw [h1, ← ST.out]
            unfold stp
            rw [find_ab HFD.out]
            simp only [HLN.out, HSY.out]
          have hnm : (l1 ++ { e with v := e.v, ss := zf ks cc sy j e.ss, sy := j } :: l2).map (·.nm) = x.es.map (·.nm) := by
            rw [← NM.out, HX.out]
            simp
          have hke : Kee w9 (wr.setCell ⟨e.q, 1, none⟩ (.int .i64 (j : Int))) := KX.out.trans (Kee.upd U4 V.out (.inr (.inl rfl)))
          have hbe : Below B w9 (wr.setCell ⟨e.q, 1, none⟩ (.int .i64 (j : Int))) := hb4.below (by have := D.out.lo.1; have := D.out.va.lt; omega) (fun i hi => by
            rcases hi with rfl | hi
            · exact HF.out.lo
            · exact HF.out.row.block i hi)
          have HPUT : Hid (Dsk (wr.setCell ⟨e.q, 1, none⟩ (.int .i64 (j : Int))) B p m { x with es := l1 ++ { e with v := e.v, ss := zf ks cc sy j e.ss, sy := j } :: l2 }) := hput
          have HSTL := (show Hid _ from (show (ab (l1 ++ { e with v := e.v, ss := zf ks cc sy j e.ss, sy := j } :: l2), cc + (j - sy)) = stl ks (ns.take (k + 1)) (ab x.es) by rw [hab, hstl]))
          have HNM := (show Hid _ from hnm)
          have HKE := (show Hid _ from KE.out.trans hke)
          have HBE := (show Hid _ from BE.out.trans hbe)
          clear hput hab hstl hnm hke hbe hf4 hb4 U4
          go_roundw
          case rel => exact ⟨k + 1, cc + (j - sy), _, hlt, by simp, rfl, HPUT.out, HSTL.out, HNM.out, by omega, HKE.out, HBE.out⟩
          case measure => simp [intOf]; omega
    · obtain rfl : k = N := by omega
      go_wp2_with fail
      go_end0
      have hst := ST.out
      rw [← HNN.out, List.take_length] at hst
      refine ⟨⟨_, rfl⟩, ⟨ns, HPM.out, HSR.out, es', by rw [← hst], D.out⟩, (Kee.bel HB1.out).trans KE.out, (HB1.out.mono HB0.out).trans BE.out⟩
end Go.Proofs.YtgabklihgjjjeaaGreatDoor
/- disk XIX: Restart. -/
namespace Go.Proofs.YtgabklihgjjjeaaGreatDoor
open Go.RowKit Go.Maps Go.Sort Go.Shelf pk
set_option linter.unusedVariables false

/-- what Restart leaves -/
def Rst (w w' : World) (B p m : Nat) (x : DK) (ks : List Bool) : Prop := (∃ ns, ns.Perm (x.es.map (·.nm)) ∧ ns.Pairwise (fun a b => a ≤ b) ∧ ∃ es', ab es' = (stl ks ns (ab x.es)).1 ∧ Dsk w' B p m { x with on := true, und := .nilFunc, es := es' }) ∧ Kee w w' ∧ Below B w w'
set_option maxRecDepth 100000 in
theorem restart_ok (w : World) (B p m : Nat) (x : DK) (h : Dsk w B p m x) (dn : Bool) (kv : Value) (ks : List Bool) (hk : Bl w kv ks) (hkl : ks.length ≤ 140737488355328) (hks : Safe w kv) (hoff : x.on = false) (hu : x.und = .nilFunc) :
    Calls Tryz.prog 15 #[ptr p, .agg #[.bool dn, kv]] w fun r w' => r = .returned (.int .i64 0) ∧ Rst w w' B p m x ks := by
  have HB0 : Hid (B ≤ w.heap.size) := (show B ≤ w.heap.size from Nat.le_trans h.lo.1 (Nat.le_of_lt h.va.lt))
  have b1 := (Below.refl w.heap.size w).alloc (Nat.le_refl _) (.cells #[.bool dn, kv] 42)
  have HH := (show Hid _ from h)
  have HV0 : Hid (VA w p [.int .i64 x.room, .map (some m), .bool false, .int .i64 x.ops, .int .i64 x.left, .nilFunc] 73) := by have := h.va; rw [hoff, hu] at this; exact this
  have V := (h.step b1).va
  rw [hoff, hu] at V
  have y2 := V.cell 2 (v := .bool false) rfl
  have y5 := V.cell 5 (v := .nilFunc) rfl
  have f5 := V.free 5
  have FV := va_new w [.bool dn, kv] 42
  have z0 := FV.cell 0 (v := .bool dn) rfl
  have z1 := FV.cell 1 (v := kv) rfl
  obtain ⟨ka, kc, hkv, _⟩ := hk.form
  have HK : Hid (Bl w kv ks) := hk
  have HS : Hid (Safe w kv) := hks
  have HD : Hid (Dsk (w.alloc (.cells #[.bool dn, kv] 42)) B p m x) := h.step b1
  have HB1 := (show Hid _ from b1)
  have HV := (show Hid _ from V)
  have hlp := h.va.lt
  have hff : ∀ w : World, (binOp .neq 1 .nilFunc .nilFunc).run Tryz.prog w = .ok (.bool false) w := fun _ => rfl
  clear h hk hks b1 V FV
  subst hkv
  have hp : (ptr p) = .pointer (some ⟨p, 0, none⟩) := rfl
  rw [hp]
  have s5 := run_store Tryz.prog (w.alloc (.cells #[.bool dn, .slice ka ks.length kc] 42)) ⟨p, 5, none⟩ .nilFunc .plain rfl
  simp only [y5, f5, Bool.false_eq_true, if_false] at s5
  have h2 := hdr_of HH.out (upd_set w p 5 .nilFunc) x.ops x.left false .nilFunc (HV0.out.set 5 _)
  have b2 := (Below.refl (w.setCell ⟨p, 5, none⟩ .nilFunc).heap.size (w.setCell ⟨p, 5, none⟩ .nilFunc)).alloc (Nat.le_refl _) (.cells #[.bool dn, .slice ka ks.length kc] 42)
  have k2 := h2.2.1.trans (Kee.bel b2)
  have HD2 : Hid (Dsk ((w.setCell ⟨p, 5, none⟩ .nilFunc).alloc (.cells #[.bool dn, .slice ka ks.length kc] 42)) B p m { x with ops := x.ops, left := x.left, on := false, und := .nilFunc }) := h2.1.step b2
  have HK2 := (show Hid _ from HK.out.kee HS.out k2)
  have HS2 : Hid (Safe ((w.setCell ⟨p, 5, none⟩ .nilFunc).alloc (.cells #[.bool dn, .slice ka ks.length kc] 42)) (.slice ka ks.length kc)) := HS.out.kee k2
  have HE2 := (show Hid _ from k2)
  have HL2 := (show Hid _ from h2.2.2.trans (b2.mono (by have := HB0.out; simp; omega)))
  clear b2 k2
  clear h2
  cases dn
  all_goals
    go_enter Tryz.func15, Tryz.ntmps15
    go_wp2_with (go_at_call 35; refine (settle_ok _ B p m _ HD2.out _ ks HK2.out hkl HS2.out).mono ?_; rintro r w3 ⟨⟨v, rfl⟩, ⟨ns, hpm, hsr, es', hab, hD⟩, hk3, hb3⟩; have y3 := hD.va.cell 2 (v := .bool false) rfl; have f3 := hD.va.free 2; have HD3 := (show Hid _ from hD); clear hD)
    go_ret
    have h4 := hdr_of HD3.out (upd_set w3 p 2 (.bool true)) x.ops x.left true .nilFunc (HD3.out.va.set 2 _)
    exact ⟨rfl, ⟨ns, hpm, hsr, es', hab, h4.1⟩, (HE2.out.trans hk3).trans h4.2.1, (HL2.out.trans hb3).trans h4.2.2⟩
end Go.Proofs.YtgabklihgjjjeaaGreatDoor
/- disk XX: the disk's files as plain lists; awake. -/
namespace Go.Proofs.YtgabklihgjjjeaaGreatDoor
open Go.RowKit Go.Maps Go.Sort Go.Shelf pk
set_option linter.unusedVariables false

abbrev FS := List (List UInt8 × List (List Nat) × Nat)
def totA : FS → Nat
  | [] => 0
  | t :: fs => t.2.1.length + totA fs
theorem tot_ab (es : List Ent) : tot es = totA (ab es) := by
  induction es with
  | nil => rfl
  | cons e es ih => show e.ss.length + tot es = e.ss.length + totA (ab es); rw [ih]
theorem find_ab' (es : List Ent) (l : List UInt8) : (ab es).find? (fun t => t.1 == l) = (fd es l).map fun e => (e.nm, e.ss, e.sy) := by
  unfold ab fd
  rw [List.find?_map]
  rfl
def fitA (room : Nat) (fs : FS) (l : List UInt8) (k : Nat) : Bool := !((fs.find? (fun t => t.1 == l)).isNone && decide (fs.length = 64)) && decide (k ≤ room - totA fs)
theorem fit_ab (x : DK) (l : List UInt8) (k : Nat) : fit x l k = fitA x.room (ab x.es) l k := by
  unfold fit fitA
  rw [find_ab', tot_ab]
  congr 2
  · congr 1
    · cases fd x.es l <;> rfl
    · simp [ab]
theorem fd_ab {es : List Ent} {l n : List UInt8} {ss : List (List Nat)} {sy : Nat} (h : (ab es).find? (fun t => t.1 == l) = some (n, ss, sy)) : ∃ f, fd es l = some f ∧ f.ss = ss ∧ f.sy = sy ∧ f.nm = n := by
  rw [find_ab'] at h
  obtain ⟨f, h1, h2⟩ := Option.map_eq_some_iff.1 h
  cases h2
  exact ⟨f, h1, rfl, rfl, rfl⟩
theorem names_ab (es : List Ent) : es.map (·.nm) = (ab es).map (·.1) := by simp [ab]
/-- a row of bytes that is known whole -/
theorem own_blk {w : World} {g n B : Nat} {bs : List Nat} (h : w.heap[g]? = some (.cells (cl bs).toArray 5 (0, 0))) (hn : bs.length = n) (hb : By bs) (hm : n ≤ 140737488355328) (hB : B ≤ g) : OwnB w B (.slice (some ⟨g, 0, none⟩) n n) bs := by
  subst hn
  exact ⟨hb, by rw [cl_len]; omega, Or.inr ⟨g, bs.length, _, rfl, hB, h, Nat.le_refl _, by unfold maxLen; omega, by simp [cl], by rw [Nat.mul_one, ← cl_len bs]; exact List.take_length⟩⟩
theorem by_zeros (n : Nat) : By (List.replicate n 0) := fun x hx => by rw [List.eq_of_mem_replicate hx]; omega
theorem made_by (n : Nat) : madeCells (Value.int .u8 0).cells (n * 1) = (cl (List.replicate n 0)).toArray := by
  show (Array.range (n * 1)).map _ = _
  refine Array.ext_getElem? fun i => ?_
  by_cases h : i < n
  · simp [cl, h, Nat.mod_one, Value.cells]
  · simp [cl, h]
theorem mk_by (n : Nat) (hn : n ≤ 1000000) (w : World) : (Instr.makeSlice 22 (.int .i64 (n : Int)) (.int .i64 (n : Int))).run Tryz.prog w = .ok (.slice (some ⟨w.heap.size, 0, none⟩) n n) (w.alloc (.cells (cl (List.replicate n 0)).toArray 5)) := by
  obtain ⟨i0, hi, hz0, hz1, hz2⟩ := info8_parts
  have h := run_make (P := Tryz.prog) w 22 5 i0 _ Tryz.underlying22 hi hz0 .i64 .i64 n n (by omega) (by omega) (by rw [hz2]; omega) (by omega)
  rw [hz1] at h
  simp only [Int.toNat_natCast] at h
  rw [made_by] at h
  exact h
theorem own_mk (n : Nat) (hn : n ≤ 1000000) (w : World) : OwnB (w.alloc (.cells (cl (List.replicate n 0)).toArray 5)) w.heap.size (.slice (some ⟨w.heap.size, 0, none⟩) n n) (List.replicate n 0) :=
  own_blk (Go.heap_alloc_new w _) (by simp) (by_zeros n) (by omega) (Nat.le_refl _)
/-- a row of truth values that is known whole -/
theorem bl_blk {w : World} {g : Nat} {ks : List Bool} (h : VA w g (ks.map Value.bool) 4) (hm : ks.length ≤ 140737488355328) : Bl w (.slice (some ⟨g, 0, none⟩) ks.length ks.length) ks ∧ Safe w (.slice (some ⟨g, 0, none⟩) ks.length ks.length) := by
  refine ⟨⟨some ⟨g, 0, none⟩, ks.length, rfl, Nat.le_refl _, by omega, fun _ => ⟨g, 0, rfl, fun i hi => ?_⟩⟩, fun b off n c e => ?_⟩
  · rw [Nat.zero_add]
    exact h.cell i (by simp [hi])
  · cases e
    exact ⟨_, _, _, h.blk, by unfold Dt; decide⟩
theorem one_perm {ns : List (List UInt8)} {l : List UInt8} (h : ns.Perm [l]) : ns = [l] := List.perm_singleton.1 h
theorem awake_sum : (stl [false, true, true] [[97]] [([97], parts (List.replicate 33 0) ++ parts [7], 0)]).1 = [([97], [[], [0], [7]], 3)] := by decide
theorem awake_parts : parts (List.replicate 33 0) = [List.replicate 32 0, [0]] := by decide
end Go.Proofs.YtgabklihgjjjeaaGreatDoor
