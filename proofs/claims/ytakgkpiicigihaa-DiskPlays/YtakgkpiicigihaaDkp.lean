/- disk XVI: the names, sorted. -/
import Derived.Test.YtakgkpiicigihaaDko
import Derived.Shelf.SlIter.Nil
import Derived.Shelf.SortM.Plain
import Derived.Shelf.SortM.SortNone
import Derived.Ground.GgzProg
import Derived.Ground.SlgmProg
namespace Go.Proofs.Ytakgkpiicigihaa
open Go.RowKit Go.Maps Go.Sort Go.Shelf pk
open Go.WideElems (Fit rd rg pl rd_key rd_val rg_of other_key)
set_option linter.unusedVariables false

shelf_lay_g SlLaysZ.n7 Ggz 7 at Try 68 as layKeys
shelf_lay_g SlLaysZ.n6 Ggz 6 at Try 67 as laySorted
shelf_lay_g SlLaysM.n6 Slgm 6 at Try 73 as laySort
theorem sortsIn (k : Nat) : AnyZ.SortsIn Try.prog laySorted_ren Fence.wide k :=
  ⟨fun blk off cap ss W hH hblk hsz => callsIn_wide.2 (AnyM.slices_Sort_string laySort blk off cap ss W hH hblk hsz), fun q cap W => callsIn_wide.2 (AnyM.slices_Sort_string_none laySort q cap W)⟩
theorem keys_in (mb : Option Nat) (W : World) : CallsIn Fence.wide 5 Try.prog 68 #[.map mb] W fun e w' => e = .returned (.func (.func 74) #[] #[.pointer (some ⟨W.heap.size, 0, none⟩)]) ∧ w' = W.alloc (.cells #[.map mb] 61) :=
  AnyZ.keys_in layKeys Fence.wide 5 trivial rfl mb W
set_option maxHeartbeats 1000000 in
theorem sorted_in (b nn : Nat) (D0 : DataW Value) (w : World) (hown : w.ownsMap Try.prog 9 heldR b nn D0) (hmax : Maps.size D0 ≤ 64) :
    CallsIn Fence.wide 5 Try.prog 67 #[.func (.func 74) #[] #[.pointer (some ⟨w.heap.size, 0, none⟩)]] (w.alloc (.cells #[.map (some b)] 61)) fun e w' =>
      ∃ (v : Value) (ss : List (List UInt8)), e = .returned v ∧ ss.Perm (strKeys D0) ∧ w'.ownsRow (w.alloc (.cells #[.map (some b)] 61)).heap.size 9 1 v ss.length ((ss.mergeSort (fun x y => decide (x ≤ y))).map encStr) ∧ (v = .slice none 0 0 ↔ ss = []) ∧ Below (w.alloc (.cells #[.map (some b)] 61)).heap.size (w.alloc (.cells #[.map (some b)] 61)) w' := by
  have hbl := hown.lt
  have hseq : SeqGives Fence.wide 2 Try.prog 74 #[.pointer (some ⟨w.heap.size, 0, none⟩)] encStr (fun ss => ss.Perm (strKeys D0)) (Maps.size D0) (w.alloc (.cells #[.map (some b)] 61)) :=
    AnyZ.keys_gives (ρ := layKeys_ren) { layKeys with } Fence.wide _ trivial rfl (by omega) w.heap.size b nn D0 _ (by simp) (by simp) (by
      obtain ⟨es, clock, hb, Ft, hs, hD⟩ := hown
      exact ⟨es, clock, (Below.heap_alloc _ _ b hbl).trans hb, Ft, hs, hD⟩)
  exact AnyZ.sorted_in laySorted Fence.wide 5 trivial trivial trivial trivial rfl (by omega) (sortsIn _) (enters_of Try.func73 (by kernel_rfl) rfl) 74 #[.pointer (some ⟨w.heap.size, 0, none⟩)] trivial (enters_of Try.func74 (by kernel_rfl) rfl) _ _ (by unfold maxLen; omega) (by omega) _ hseq
theorem names_perm {w : World} {b n : Nat} {es : List Ent} (h : MapF w 9 b n (mf es)) (hp : es.Pairwise Apart) (hn : ∀ e ∈ es, e.nm.length ≤ 16) : ∃ D : DataW Value, w.ownsMap Try.prog 9 heldR b n D ∧ Maps.size D = es.length ∧ (strKeys D).Perm (es.map (·.nm)) := by
  obtain ⟨D, ho, hf⟩ := h
  have hsz : Maps.size D = es.length := by
    obtain ⟨D', h1, h2⟩ := MapF.lenS ⟨D, ho, hf⟩ hp hn
    obtain ⟨ms, c, hb, _, _, rfl⟩ := ho
    obtain ⟨ms', c', hb', _, _, rfl⟩ := h1
    rw [hb] at hb'
    cases hb'
    exact h2
  refine ⟨D, ho, hsz, ?_⟩
  obtain ⟨ms, clock, hb, F, hs, rfl⟩ := ho
  have h1 := Maps.fit_apart keyedS F
  have hkey : ∀ q ∈ ms.toList.map (rg Try.prog 9 heldR), ∃ l : List UInt8, q.1 = .string l := fun q hq => by
    obtain ⟨e, he, rfl⟩ := List.mem_map.1 hq
    obtain ⟨y, hy⟩ := F.reads e he
    obtain ⟨s, _, h3, _⟩ := str_of (rd_key hy)
    rw [rg_of hy]
    exact ⟨_, h3⟩
  have hperm : ((ms.toList.map (rg Try.prog 9 heldR)).foldr DataW.insert []).Perm (ms.toList.map (rg Try.prog 9 heldR)) := Go.WideShapes.sorted_perm _
  show (((ms.toList.map (rg Try.prog 9 heldR)).foldr DataW.insert []).map fun q => strOf q.1).Perm _
  refine (hperm.map _).trans ?_
  have hnd : ((ms.toList.map (rg Try.prog 9 heldR)).map fun q => strOf q.1).Nodup := by
    refine List.pairwise_map.2 (List.Pairwise.imp_of_mem (fun {a b} ha hb' hab e => ?_) h1)
    obtain ⟨l, hl⟩ := hkey a ha
    obtain ⟨l', hl'⟩ := hkey b hb'
    rw [hl, hl'] at e hab
    exact hab (by congr 1)
  have hnd2 : (es.map (·.nm)).Nodup := List.pairwise_map.2 (hp.imp (fun h => h.1))
  have hin : ∀ kl, Maps.has (.map ((ms.toList.map (rg Try.prog 9 heldR)).foldr DataW.insert [])) kl = true ↔ kl ∈ (ms.toList.map (rg Try.prog 9 heldR)).map (·.1) := fun kl => by
    constructor
    · intro hh
      obtain ⟨q, hq, hk⟩ := List.any_eq_true.1 hh
      rw [← WideAt.sameKey_eq hk]
      exact List.mem_map.2 ⟨q, mem_sorted.1 hq, rfl⟩
    · intro hh
      obtain ⟨q, hq, rfl⟩ := List.mem_map.1 hh
      obtain ⟨e, he, rfl⟩ := List.mem_map.1 hq
      obtain ⟨y, hy⟩ := F.reads e he
      refine List.any_eq_true.2 ⟨rg Try.prog 9 heldR e, mem_sorted.2 (List.mem_map.2 ⟨e, he, rfl⟩), ?_⟩
      rw [rg_of hy]
      exact WideAt.sameKey_self (keyedS.key (rd_key hy))
  refine (List.perm_ext_iff_of_nodup hnd hnd2).2 (fun l => ⟨fun hl => ?_, fun hl => ?_⟩)
  · obtain ⟨q, hq, rfl⟩ := List.mem_map.1 hl
    obtain ⟨e, he, rfl⟩ := List.mem_map.1 hq
    obtain ⟨y, hy⟩ := F.reads e he
    have hh := (hin _).2 (List.mem_map.2 ⟨_, hq, rfl⟩)
    obtain ⟨s, _, h3, _⟩ := str_of (rd_key hy)
    rw [rg_of hy] at hh ⊢
    rw [(hf _ _ (rd_key hy)).1] at hh
    obtain ⟨c, hc⟩ := Option.isSome_iff_exists.1 hh
    obtain ⟨e', h4, h5, _⟩ := mf_some hc
    have h6 : y.1 = Lit.string e'.nm := h5
    show strOf y.1 ∈ _
    rw [h6]
    exact List.mem_map.2 ⟨e', h4, rfl⟩
  · obtain ⟨e, he, rfl⟩ := List.mem_map.1 hl
    have hh : Maps.has (.map ((ms.toList.map (rg Try.prog 9 heldR)).foldr DataW.insert [])) (.string e.nm) = true := by
      rw [(hf _ _ (nm_key (hn e he))).1]
      show ((fd es e.nm).map _).isSome = true
      rw [fd_of hp he]
      rfl
    obtain ⟨q, hq, hq2⟩ := List.mem_map.1 ((hin _).1 hh)
    exact List.mem_map.2 ⟨q, hq, by show strOf q.1 = e.nm; rw [hq2]; rfl⟩
/-- a new row of texts -/
def OwnN (w : World) (B : Nat) (v : Value) (ns : List (List UInt8)) : Prop := w.ownsRow B 9 1 v ns.length (ns.map encStr)
theorem sorted_ok (w : World) (B p m : Nat) (x : DK) (h : Dsk w B p m x) :
    Calls Try.prog 54 #[ptr p] w fun e w' => ∃ v ns, e = .returned v ∧ ns.Perm (x.es.map (·.nm)) ∧ ns.Pairwise (fun a b => a ≤ b) ∧ OwnN w' w.heap.size v ns ∧ (v = .slice none 0 0 ↔ ns = []) ∧ Below w.heap.size w w' := by
  obtain ⟨D, ho, hsz, hpm⟩ := names_perm h.mp h.ap (fun e he => (h.fil e he).nm)
  have y1 := h.va.cell 1 (v := .map (some m)) rfl
  have hmx : Maps.size D ≤ 64 := by rw [hsz]; exact h.fits.2.2
  have HPM := (show Hid _ from hpm)
  have HO : Hid (w.ownsMap Try.prog 9 heldR m x.es.length D) := ho
  clear h ho hsz hpm
  have hp : (ptr p) = .pointer (some ⟨p, 0, none⟩) := rfl
  rw [hp]
  refine (callsIn_wide (n := 6)).1 ?_
  have hfK : Fence.wide.fn 68 := trivial
  have hfS : Fence.wide.fn 67 := trivial
  refine callsIn_of_wp Try.func54 rfl trivial ?_ rfl
  simp only [Try.ntmps54, List.size_toArray, List.length_cons, List.length_nil, Nat.reduceAdd, Nat.reduceSub, Array.replicate_succ, Array.replicate_zero, List.push_toArray, List.append_toArray, List.nil_append, List.cons_append]
  gi_wp2_with (first | (gi_at_call 68; refine (keys_in _ _).mono ?_; rintro e w' ⟨rfl, rfl⟩) | (gi_at_call 67; refine (sorted_in m x.es.length D w HO.out hmx).mono ?_; rintro e w' ⟨v, ss, rfl, hS, hrow, hnil, hb⟩))
  go_ret
  have hms : (ss.mergeSort (fun x y => decide (x ≤ y))).Perm ss := List.mergeSort_perm _ _
  refine ⟨v, ss.mergeSort (fun x y => decide (x ≤ y)), rfl, (hms.trans hS).trans HPM.out, ?_, ?_, ?_, ((Below.refl _ w).alloc (Nat.le_refl _) _).trans (hb.mono (by simp))⟩
  · have := List.pairwise_mergeSort (le := fun x y : List UInt8 => decide (x ≤ y)) (fun a b c h1 h2 => by simp only [decide_eq_true_eq] at *; exact List.le_trans h1 h2) (fun a b => by simpa using List.le_total a b) ss
    exact this.imp (fun h => by simpa using h)
  · unfold OwnN
    rw [hms.length_eq]
    exact ownsRow_base_a hrow (by simp)
  · rw [hnil]
    exact ⟨fun e => by rw [e] at hms ⊢; exact hms.eq_nil, fun e => by rw [e] at hms; exact hms.symm.eq_nil⟩
end Go.Proofs.Ytakgkpiicigihaa
