/- disk XVI: the names, sorted. -/
import Derived.Test.YtkmdegmpffgplaaGreatDoorLam
import Derived.Shelf.SlIter.Nil
import Derived.Shelf.SortM.Plain
import Derived.Shelf.SortM.SortNone
import Derived.Ground.GgzProg
import Derived.Ground.SlgmProg
namespace Go.Proofs.YtkmdegmpffgplaaGreatDoor
open Go.RowKit Go.Maps Go.Sort Go.Shelf pk
open Go.WideElems (Fit rd rg pl rd_key rd_val rg_of other_key)
set_option linter.unusedVariables false

shelf_lay_g SlLaysZ.n7 Ggz 7 at Tryz 101 as layKeys
shelf_lay_g SlLaysZ.n6 Ggz 6 at Tryz 100 as laySorted
shelf_lay_g SlLaysM.n6 Slgm 6 at Tryz 118 as laySort
theorem sortsIn (k : Nat) : AnyZ.SortsIn Tryz.prog laySorted_ren Fence.wide k :=
  ⟨fun blk off cap ss W hH hblk hsz => callsIn_wide.2 (AnyM.slices_Sort_string laySort blk off cap ss W hH hblk hsz), fun q cap W => callsIn_wide.2 (AnyM.slices_Sort_string_none laySort q cap W)⟩
theorem keys_in (mb : Option Nat) (W : World) : CallsIn Fence.wide 5 Tryz.prog 101 #[.map mb] W fun e w' => e = .returned (.func (.func 119) #[] #[.pointer (some ⟨W.heap.size, 0, none⟩)]) ∧ w' = W.alloc (.cells #[.map mb] 104) :=
  AnyZ.keys_in layKeys Fence.wide 5 trivial rfl mb W
set_option maxHeartbeats 1000000 in
theorem sorted_in (b nn : Nat) (D0 : DataW Value) (w : World) (hown : w.ownsMap Tryz.prog 9 heldR b nn D0) (hmax : Maps.size D0 ≤ 64) :
    CallsIn Fence.wide 5 Tryz.prog 100 #[.func (.func 119) #[] #[.pointer (some ⟨w.heap.size, 0, none⟩)]] (w.alloc (.cells #[.map (some b)] 104)) fun e w' =>
      ∃ (v : Value) (ss : List (List UInt8)), e = .returned v ∧ ss.Perm (strKeys D0) ∧ w'.ownsRow (w.alloc (.cells #[.map (some b)] 104)).heap.size 9 1 v ss.length ((ss.mergeSort (fun x y => decide (x ≤ y))).map encStr) ∧ (v = .slice none 0 0 ↔ ss = []) ∧ Below (w.alloc (.cells #[.map (some b)] 104)).heap.size (w.alloc (.cells #[.map (some b)] 104)) w' := by
  have hbl := hown.lt
  have hseq : SeqGives Fence.wide 2 Tryz.prog 119 #[.pointer (some ⟨w.heap.size, 0, none⟩)] encStr (fun ss => ss.Perm (strKeys D0)) (Maps.size D0) (w.alloc (.cells #[.map (some b)] 104)) :=
    AnyZ.keys_gives (ρ := layKeys_ren) { layKeys with } Fence.wide _ trivial rfl (by omega) w.heap.size b nn D0 _ (by simp) (by simp) (by
      obtain ⟨es, clock, hb, Ft, hs, hD⟩ := hown
      exact ⟨es, clock, (Below.heap_alloc _ _ b hbl).trans hb, Ft, hs, hD⟩)
  exact AnyZ.sorted_in laySorted Fence.wide 5 trivial trivial trivial trivial rfl (by omega) (sortsIn _) (enters_of Tryz.func118 (by kernel_rfl) rfl) 119 #[.pointer (some ⟨w.heap.size, 0, none⟩)] trivial (enters_of Tryz.func119 (by kernel_rfl) rfl) _ _ (by unfold maxLen; omega) (by omega) _ hseq
theorem names_perm {w : World} {b n : Nat} {es : List Ent} (h : MapF w 9 b n (mf es)) (hp : es.Pairwise Apart) (hn : ∀ e ∈ es, e.nm.length ≤ 16) : ∃ D : DataW Value, w.ownsMap Tryz.prog 9 heldR b n D ∧ Maps.size D = es.length ∧ (strKeys D).Perm (es.map (·.nm)) := by
  obtain ⟨D, ho, hf⟩ := h
  have hsz : Maps.size D = es.length := by
    obtain ⟨D', h1, h2⟩ := MapF.lenS ⟨D, ho, hf⟩ hp hn
    obtain ⟨ms, c, hb, _, _, rfl⟩ := ho
    obtain ⟨ms', c', hb', _, _, rfl⟩ := h1
    rw [hb] at hb'
    cases hb'
    exact h2
  refine ⟨D, ho, hsz, ?_⟩
  obtain ⟨ms, clock, hb, F, hs, rfl⟩ := ho
  have h1 := Maps.fit_apart keyedS F
  have hkey : ∀ q ∈ ms.toList.map (rg Tryz.prog 9 heldR), ∃ l : List UInt8, q.1 = .string l := fun q hq => by
    obtain ⟨e, he, rfl⟩ := List.mem_map.1 hq
    obtain ⟨y, hy⟩ := F.reads e he
    obtain ⟨s, _, h3, _⟩ := str_of (rd_key hy)
    rw [rg_of hy]
    exact ⟨_, h3⟩
  have hperm : ((ms.toList.map (rg Tryz.prog 9 heldR)).foldr DataW.insert []).Perm (ms.toList.map (rg Tryz.prog 9 heldR)) := Go.WideShapes.sorted_perm _
  show (((ms.toList.map (rg Tryz.prog 9 heldR)).foldr DataW.insert []).map fun q => strOf q.1).Perm _
  refine (hperm.map _).trans ?_
  have hnd : ((ms.toList.map (rg Tryz.prog 9 heldR)).map fun q => strOf q.1).Nodup := by
    refine List.pairwise_map.2 (List.Pairwise.imp_of_mem (fun {a b} ha hb' hab e => ?_) h1)
    obtain ⟨l, hl⟩ := hkey a ha
    obtain ⟨l', hl'⟩ := hkey b hb'
    rw [hl, hl'] at e hab
    exact hab (by congr 1)
  have hnd2 : (es.map (·.nm)).Nodup := List.pairwise_map.2 (hp.imp (fun h => h.1))
  have hin : ∀ kl, Maps.has (.map ((ms.toList.map (rg Tryz.prog 9 heldR)).foldr DataW.insert [])) kl = true ↔ kl ∈ (ms.toList.map (rg Tryz.prog 9 heldR)).map (·.1) := fun kl => by
    constructor
    · intro hh
      obtain ⟨q, hq, hk⟩ := List.any_eq_true.1 hh
      rw [← WideAt.sameKey_eq hk]
      exact List.mem_map.2 ⟨q, mem_sorted.1 hq, rfl⟩
    · intro hh
      obtain ⟨q, hq, rfl⟩ := List.mem_map.1 hh
      obtain ⟨e, he, rfl⟩ := List.mem_map.1 hq
      obtain ⟨y, hy⟩ := F.reads e he
      refine List.any_eq_true.2 ⟨rg Tryz.prog 9 heldR e, mem_sorted.2 (List.mem_map.2 ⟨e, he, rfl⟩), ?_⟩
      rw [rg_of hy]
      exact WideAt.sameKey_self (keyedS.key (rd_key hy))
  refine (List.perm_ext_iff_of_nodup hnd hnd2).2 (fun l => ⟨fun hl => ?_, fun hl => ?_⟩)
  · obtain ⟨q, hq, rfl⟩ := List.mem_map.1 hl
    obtain ⟨e, he, rfl⟩ := List.mem_map.1 hq
    obtain ⟨y, hy⟩ := F.reads e he
    have hh := (hin _).2 (List.mem_map.2 ⟨_, hq, rfl⟩)
    obtain ⟨s, _, h3, _⟩ := str_of (rd_key hy)
    rw [rg_of hy] at hh ⊢
    rw [(hf _ _ (rd_key hy)).1] at hh
    obtain ⟨c, hc⟩ := Option.isSome_iff_exists.1 hh
    obtain ⟨e', h4, h5, _⟩ := mf_some hc
    have h6 : y.1 = Lit.string e'.nm := h5
    show strOf y.1 ∈ _
    rw [h6]
    exact List.mem_map.2 ⟨e', h4, rfl⟩
  · obtain ⟨e, he, rfl⟩ := List.mem_map.1 hl
    have hh : Maps.has (.map ((ms.toList.map (rg Tryz.prog 9 heldR)).foldr DataW.insert [])) (.string e.nm) = true := by
      rw [(hf _ _ (nm_key (hn e he))).1]
      show ((fd es e.nm).map _).isSome = true
      rw [fd_of hp he]
      rfl
    obtain ⟨q, hq, hq2⟩ := List.mem_map.1 ((hin _).1 hh)
    exact List.mem_map.2 ⟨q, hq, by show strOf q.1 = e.nm; rw [hq2]; rfl⟩
/-- a new row of texts -/
def OwnN (w : World) (B : Nat) (v : Value) (ns : List (List UInt8)) : Prop := w.ownsRow B 9 1 v ns.length (ns.map encStr)
theorem sorted_ok (w : World) (B p m : Nat) (x : DK) (h : Dsk w B p m x) :
    Calls Tryz.prog 77 #[ptr p] w fun e w' => ∃ v ns, e = .returned v ∧ ns.Perm (x.es.map (·.nm)) ∧ ns.Pairwise (fun a b => a ≤ b) ∧ OwnN w' w.heap.size v ns ∧ (v = .slice none 0 0 ↔ ns = []) ∧ Below w.heap.size w w' := by
  obtain ⟨D, ho, hsz, hpm⟩ := names_perm h.mp h.ap (fun e he => (h.fil e he).nm)
  have y1 := h.va.cell 1 (v := .map (some m)) rfl
  have hmx : Maps.size D ≤ 64 := by rw [hsz]; exact h.fits.2.2
  have HPM := (show Hid _ from hpm)
  have HO : Hid (w.ownsMap Tryz.prog 9 heldR m x.es.length D) := ho
  clear h ho hsz hpm
  have hp : (ptr p) = .pointer (some ⟨p, 0, none⟩) := rfl
  rw [hp]
  refine (callsIn_wide (n := 6)).1 ?_
  have hfK : Fence.wide.fn 101 := trivial
  have hfS : Fence.wide.fn 100 := trivial
  refine callsIn_of_wp Tryz.func77 rfl trivial ?_ rfl
  simp only [Tryz.ntmps77, List.size_toArray, List.length_cons, List.length_nil, Nat.reduceAdd, Nat.reduceSub, Array.replicate_succ, Array.replicate_zero, List.push_toArray, List.append_toArray, List.nil_append, List.cons_append]
  gi_wp2_with (first | (gi_at_call 101; refine (keys_in _ _).mono ?_; rintro e w' ⟨rfl, rfl⟩) | (gi_at_call 100; refine (sorted_in m x.es.length D w HO.out hmx).mono ?_; rintro e w' ⟨v, ss, rfl, hS, hrow, hnil, hb⟩))
  go_ret
  have hms : (ss.mergeSort (fun x y => decide (x ≤ y))).Perm ss := List.mergeSort_perm _ _
  refine ⟨v, ss.mergeSort (fun x y => decide (x ≤ y)), rfl, (hms.trans hS).trans HPM.out, ?_, ?_, ?_, ((Below.refl _ w).alloc (Nat.le_refl _) _).trans (hb.mono (by simp))⟩
  · have := List.pairwise_mergeSort (le := fun x y : List UInt8 => decide (x ≤ y)) (fun a b c h1 h2 => by simp only [decide_eq_true_eq] at *; exact List.le_trans h1 h2) (fun a b => by simpa using List.le_total a b) ss
    exact this.imp (fun h => by simpa using h)
  · unfold OwnN
    rw [hms.length_eq]
    exact ownsRow_base_a hrow (by simp)
  · rw [hnil]
    exact ⟨fun e => by rw [e] at hms ⊢; exact hms.eq_nil, fun e => by rw [e] at hms; exact hms.symm.eq_nil⟩
end Go.Proofs.YtkmdegmpffgplaaGreatDoor
/- disk XVII: a sector of a row is stored; what Restart keeps. -/
namespace Go.Proofs.YtkmdegmpffgplaaGreatDoor
open Go.RowKit Go.Maps Go.Shelf pk
set_option linter.unusedVariables false

theorem cells_set (ss : List (List Nat)) (j : Nat) (d : List Nat) (hj : j < ss.length) : KS.cells (ss.set j d) = (KS.cells ss).take (j * 32) ++ sect d ++ (KS.cells ss).drop (j * 32 + 32) := by
  have e : ss = ss.take j ++ ss[j] :: ss.drop (j + 1) := by rw [List.getElem_cons_drop, List.take_append_drop]
  have h1 : (KS.cells (ss.take j)).length = j * 32 := by
    rw [KS.cells_len, List.length_take]
    show min j ss.length * 32 = j * 32
    congr 1
    omega
  have h2 : KS.cells ss = KS.cells (ss.take j) ++ (sect ss[j] ++ KS.cells (ss.drop (j + 1))) := by
    conv => lhs; rw [e]
    rw [KS.cells_app]
    rfl
  have h3 : ss.set j d = ss.take j ++ d :: ss.drop (j + 1) := by
    rw [List.set_eq_take_append_cons_drop, if_pos hj]
  have h4 : (sect ss[j]).length = 32 := sect_len _
  rw [h3, KS.cells_app]
  show KS.cells (ss.take j) ++ (sect d ++ KS.cells (ss.drop (j + 1))) = _
  have t1 : (KS.cells (ss.take j) ++ (sect ss[j] ++ KS.cells (ss.drop (j + 1)))).take (j * 32) = KS.cells (ss.take j) := List.take_left' h1
  have t2 : (KS.cells (ss.take j) ++ (sect ss[j] ++ KS.cells (ss.drop (j + 1)))).drop (j * 32 + 32) = KS.cells (ss.drop (j + 1)) := by
    rw [← List.append_assoc]
    exact List.drop_left' (by rw [List.length_append, h1, h4])
  rw [h2, t1, t2, List.append_assoc]
/-- f.sectors[j] = d -/
theorem stS {w : World} {B g n cap : Nat} {ss : List (List Nat)} (h : Own KS w B (.slice (some ⟨g, 0, none⟩) n cap) ss) (j : Nat) (hj : j < ss.length) (d : List Nat) :
    ∃ w', (storeCells ⟨g, j * 32, none⟩ (sect d)).run Tryz.prog w = .ok () w' ∧ Own KS w' B (.slice (some ⟨g, 0, none⟩) n cap) (ss.set j d) ∧ Upd g w w' := by
  rcases h.own.2 with ⟨e, _⟩ | ⟨g', cap', cur, e, hb, hg, hc1, hc2, hsz, htk⟩
  · cases e
  · cases e
    have hsz2 : cur.size = cap * 32 := hsz
    have htk2 : cur.toList.take (ss.length * 32) = KS.cells ss := htk
    have hle : j * 32 + 32 ≤ cur.size := by rw [hsz2]; omega
    have hr := run_storeCells_at (P := Tryz.prog) g (j * 32) 143 (sect d) 0 cur w hg (by rw [sect_len]; omega) (sect_one d)
    rw [sect_len, Nat.add_zero] at hr
    refine ⟨_, hr, ⟨?_, Or.inr ⟨g, cap, _, by rw [List.length_set], hb, setRow_heap w g _ _ _ _ hg, by rw [List.length_set]; exact hc1, hc2, ?_, ?_⟩⟩, upd_setRow w g _⟩
    · rw [KS.cells_len]
    · show (_ : List Value).toArray.size = cap * 32
      rw [List.size_toArray, List.length_append, List.length_append, List.length_take, List.length_drop, sect_len]
      have : cur.toList.length = cap * 32 := by rw [Array.length_toList, hsz2]
      omega
    · show ((_ : List Value).toArray.toList).take ((ss.set j d).length * 32) = KS.cells (ss.set j d)
      rw [cells_set ss j d hj, ← htk2, List.length_set]
      have hl : cur.toList.length = cap * 32 := by rw [Array.length_toList, hsz2]
      have hjs : j * 32 + 32 ≤ ss.length * 32 := by omega
      show (cur.toList.take (j * 32) ++ sect d ++ cur.toList.drop (j * 32 + 32)).take (ss.length * 32) = _
      rw [List.take_append, List.take_of_length_le (by rw [List.length_append, List.length_take, sect_len]; omega), List.length_append, List.length_take, sect_len, List.take_take, List.drop_take, show min (j * 32) (ss.length * 32) = j * 32 by omega, show ss.length * 32 - (min (j * 32) cur.toList.length + 32) = ss.length * 32 - (j * 32 + 32) by omega]
/-- the slice v holds the truth values ks -/
structure Bl (w : World) (v : Value) (ks : List Bool) : Prop where
  form : ∃ a c, v = .slice a ks.length c ∧ ks.length ≤ c ∧ c ≤ 9223372036854775807 ∧ (0 < ks.length → ∃ b off, a = some ⟨b, off, none⟩ ∧ ∀ i, i < ks.length → w.cell? ⟨b, off + i, none⟩ = some (.bool (ks.getD i false)))
theorem Bl.kee {w w' : World} {v : Value} {ks : List Bool} (h : Bl w v ks) (hs : Safe w v) (k : Kee w w') : Bl w' v ks := by
  obtain ⟨a, c, rfl, h1, h2, h3⟩ := h
  refine ⟨a, c, rfl, h1, h2, fun h0 => ?_⟩
  obtain ⟨b, off, rfl, hx⟩ := h3 h0
  obtain ⟨cs, T, z, hc, hT⟩ := hs b off _ _ rfl
  refine ⟨b, off, rfl, fun j hj => ?_⟩
  rw [← hx j hj]
  exact World.cell?_of_block ((k.blk _ _ _ _ hc hT).trans hc.symm)
/-- the sectors of a file, those from sy up to j made noughts that are not kept: the first one's flag is number i -/
def zf (ks : List Bool) (i sy j : Nat) (ss : List (List Nat)) : List (List Nat) := ss.mapIdx fun k s => if sy ≤ k ∧ k < j ∧ ks.getD (i + (k - sy)) false = false then [] else s
theorem zf_len (ks : List Bool) (i sy j : Nat) (ss : List (List Nat)) : (zf ks i sy j ss).length = ss.length := by simp [zf]
theorem zf_start (ks : List Bool) (i sy : Nat) (ss : List (List Nat)) : zf ks i sy sy ss = ss := by
  unfold zf
  refine List.ext_getElem? (fun k => ?_)
  rw [List.getElem?_mapIdx]
  cases ss[k]? with
  | none => rfl
  | some s => simp only [Option.map_some]; rw [if_neg (by omega)]
theorem zf_keep {ks : List Bool} {i sy j : Nat} {ss : List (List Nat)} (h : sy ≤ j) (hk : ks.getD (i + (j - sy)) false = true) : zf ks i sy (j + 1) ss = zf ks i sy j ss := by
  unfold zf
  refine List.ext_getElem? (fun k => ?_)
  rw [List.getElem?_mapIdx, List.getElem?_mapIdx]
  cases ss[k]? with
  | none => rfl
  | some s =>
    simp only [Option.map_some, Option.some.injEq]
    by_cases hkj : k = j
    · subst hkj
      rw [hk, if_neg (by simp), if_neg (by simp)]
    · have : (sy ≤ k ∧ k < j + 1 ∧ ks.getD (i + (k - sy)) false = false) ↔ (sy ≤ k ∧ k < j ∧ ks.getD (i + (k - sy)) false = false) := ⟨fun ⟨a, b, c⟩ => ⟨a, by omega, c⟩, fun ⟨a, b, c⟩ => ⟨a, by omega, c⟩⟩
      simp only [this]
theorem zf_zero {ks : List Bool} {i sy j : Nat} {ss : List (List Nat)} (h : sy ≤ j) (hk : ks.getD (i + (j - sy)) false = false) : zf ks i sy (j + 1) ss = (zf ks i sy j ss).set j [] := by
  unfold zf
  refine List.ext_getElem? (fun k => ?_)
  rw [List.getElem?_set, List.getElem?_mapIdx, List.getElem?_mapIdx, List.length_mapIdx]
  by_cases hkj : j = k
  · subst hkj
    rw [if_pos rfl]
    by_cases hl : j < ss.length
    · rw [if_pos hl, List.getElem?_eq_getElem hl]
      simp only [Option.map_some]
      rw [if_pos ⟨h, by omega, hk⟩]
    · rw [if_neg hl, List.getElem?_eq_none (by omega)]
      rfl
  · rw [if_neg hkj]
    cases ss[k]? with
    | none => rfl
    | some s =>
      simp only [Option.map_some, Option.some.injEq]
      have : (sy ≤ k ∧ k < j + 1 ∧ ks.getD (i + (k - sy)) false = false) ↔ (sy ≤ k ∧ k < j ∧ ks.getD (i + (k - sy)) false = false) := ⟨fun ⟨a, b, c⟩ => ⟨a, by omega, c⟩, fun ⟨a, b, c⟩ => ⟨a, by omega, c⟩⟩
      simp only [this]
end Go.Proofs.YtkmdegmpffgplaaGreatDoor
