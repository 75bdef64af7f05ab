/- disk XVII: a sector of a row is stored; what Restart keeps. -/
import Derived.Test.YtakgkpiicigihaaDkp
namespace Go.Proofs.Ytakgkpiicigihaa
open Go.RowKit Go.Maps Go.Shelf pk
set_option linter.unusedVariables false

theorem cells_set (ss : List (List Nat)) (j : Nat) (d : List Nat) (hj : j < ss.length) : KS.cells (ss.set j d) = (KS.cells ss).take (j * 32) ++ sect d ++ (KS.cells ss).drop (j * 32 + 32) := by
  have e : ss = ss.take j ++ ss[j] :: ss.drop (j + 1) := by rw [List.getElem_cons_drop, List.take_append_drop]
  have h1 : (KS.cells (ss.take j)).length = j * 32 := by
    rw [KS.cells_len, List.length_take]
    show min j ss.length * 32 = j * 32
    congr 1
    omega
  have h2 : KS.cells ss = KS.cells (ss.take j) ++ (sect ss[j] ++ KS.cells (ss.drop (j + 1))) := by
    conv => lhs; rw [e]
    rw [KS.cells_app]
    rfl
  have h3 : ss.set j d = ss.take j ++ d :: ss.drop (j + 1) := by
    rw [List.set_eq_take_append_cons_drop, if_pos hj]
  have h4 : (sect ss[j]).length = 32 := sect_len _
  rw [h3, KS.cells_app]
  show KS.cells (ss.take j) ++ (sect d ++ KS.cells (ss.drop (j + 1))) = _
  have t1 : (KS.cells (ss.take j) ++ (sect ss[j] ++ KS.cells (ss.drop (j + 1)))).take (j * 32) = KS.cells (ss.take j) := List.take_left' h1
  have t2 : (KS.cells (ss.take j) ++ (sect ss[j] ++ KS.cells (ss.drop (j + 1)))).drop (j * 32 + 32) = KS.cells (ss.drop (j + 1)) := by
    rw [← List.append_assoc]
    exact List.drop_left' (by rw [List.length_append, h1, h4])
  rw [h2, t1, t2, List.append_assoc]
/-- f.sectors[j] = d -/
theorem stS {w : World} {B g n cap : Nat} {ss : List (List Nat)} (h : Own KS w B (.slice (some ⟨g, 0, none⟩) n cap) ss) (j : Nat) (hj : j < ss.length) (d : List Nat) :
    ∃ w', (storeCells ⟨g, j * 32, none⟩ (sect d)).run Try.prog w = .ok () w' ∧ Own KS w' B (.slice (some ⟨g, 0, none⟩) n cap) (ss.set j d) ∧ Upd g w w' := by
  rcases h.own.2 with ⟨e, _⟩ | ⟨g', cap', cur, e, hb, hg, hc1, hc2, hsz, htk⟩
  · cases e
  · cases e
    have hsz2 : cur.size = cap * 32 := hsz
    have htk2 : cur.toList.take (ss.length * 32) = KS.cells ss := htk
    have hle : j * 32 + 32 ≤ cur.size := by rw [hsz2]; omega
    have hr := run_storeCells_at (P := Try.prog) g (j * 32) 105 (sect d) 0 cur w hg (by rw [sect_len]; omega) (sect_one d)
    rw [sect_len, Nat.add_zero] at hr
    refine ⟨_, hr, ⟨?_, Or.inr ⟨g, cap, _, by rw [List.length_set], hb, setRow_heap w g _ _ _ _ hg, by rw [List.length_set]; exact hc1, hc2, ?_, ?_⟩⟩, upd_setRow w g _⟩
    · rw [KS.cells_len]
    · show (_ : List Value).toArray.size = cap * 32
      rw [List.size_toArray, List.length_append, List.length_append, List.length_take, List.length_drop, sect_len]
      have : cur.toList.length = cap * 32 := by rw [Array.length_toList, hsz2]
      omega
    · show ((_ : List Value).toArray.toList).take ((ss.set j d).length * 32) = KS.cells (ss.set j d)
      rw [cells_set ss j d hj, ← htk2, List.length_set]
      have hl : cur.toList.length = cap * 32 := by rw [Array.length_toList, hsz2]
      have hjs : j * 32 + 32 ≤ ss.length * 32 := by omega
      show (cur.toList.take (j * 32) ++ sect d ++ cur.toList.drop (j * 32 + 32)).take (ss.length * 32) = _
      rw [List.take_append, List.take_of_length_le (by rw [List.length_append, List.length_take, sect_len]; omega), List.length_append, List.length_take, sect_len, List.take_take, List.drop_take, show min (j * 32) (ss.length * 32) = j * 32 by omega, show ss.length * 32 - (min (j * 32) cur.toList.length + 32) = ss.length * 32 - (j * 32 + 32) by omega]
/-- the slice v holds the truth values ks -/
structure Bl (w : World) (v : Value) (ks : List Bool) : Prop where
  form : ∃ a c, v = .slice a ks.length c ∧ ks.length ≤ c ∧ c ≤ 9223372036854775807 ∧ (0 < ks.length → ∃ b off, a = some ⟨b, off, none⟩ ∧ ∀ i, i < ks.length → w.cell? ⟨b, off + i, none⟩ = some (.bool (ks.getD i false)))
theorem Bl.kee {w w' : World} {v : Value} {ks : List Bool} (h : Bl w v ks) (hs : Safe w v) (k : Kee w w') : Bl w' v ks := by
  obtain ⟨a, c, rfl, h1, h2, h3⟩ := h
  refine ⟨a, c, rfl, h1, h2, fun h0 => ?_⟩
  obtain ⟨b, off, rfl, hx⟩ := h3 h0
  obtain ⟨cs, T, z, hc, hT⟩ := hs b off _ _ rfl
  refine ⟨b, off, rfl, fun j hj => ?_⟩
  rw [← hx j hj]
  exact World.cell?_of_block ((k.blk _ _ _ _ hc hT).trans hc.symm)
/-- the sectors of a file, those from sy up to j made noughts that are not kept: the first one's flag is number i -/
def zf (ks : List Bool) (i sy j : Nat) (ss : List (List Nat)) : List (List Nat) := ss.mapIdx fun k s => if sy ≤ k ∧ k < j ∧ ks.getD (i + (k - sy)) false = false then [] else s
theorem zf_len (ks : List Bool) (i sy j : Nat) (ss : List (List Nat)) : (zf ks i sy j ss).length = ss.length := by simp [zf]
theorem zf_start (ks : List Bool) (i sy : Nat) (ss : List (List Nat)) : zf ks i sy sy ss = ss := by
  unfold zf
  refine List.ext_getElem? (fun k => ?_)
  rw [List.getElem?_mapIdx]
  cases ss[k]? with
  | none => rfl
  | some s => simp only [Option.map_some]; rw [if_neg (by omega)]
theorem zf_keep {ks : List Bool} {i sy j : Nat} {ss : List (List Nat)} (h : sy ≤ j) (hk : ks.getD (i + (j - sy)) false = true) : zf ks i sy (j + 1) ss = zf ks i sy j ss := by
  unfold zf
  refine List.ext_getElem? (fun k => ?_)
  rw [List.getElem?_mapIdx, List.getElem?_mapIdx]
  cases ss[k]? with
  | none => rfl
  | some s =>
    simp only [Option.map_some, Option.some.injEq]
    by_cases hkj : k = j
    · subst hkj
      rw [hk, if_neg (by simp), if_neg (by simp)]
    · have : (sy ≤ k ∧ k < j + 1 ∧ ks.getD (i + (k - sy)) false = false) ↔ (sy ≤ k ∧ k < j ∧ ks.getD (i + (k - sy)) false = false) := ⟨fun ⟨a, b, c⟩ => ⟨a, by omega, c⟩, fun ⟨a, b, c⟩ => ⟨a, by omega, c⟩⟩
      simp only [this]
theorem zf_zero {ks : List Bool} {i sy j : Nat} {ss : List (List Nat)} (h : sy ≤ j) (hk : ks.getD (i + (j - sy)) false = false) : zf ks i sy (j + 1) ss = (zf ks i sy j ss).set j [] := by
  unfold zf
  refine List.ext_getElem? (fun k => ?_)
  rw [List.getElem?_set, List.getElem?_mapIdx, List.getElem?_mapIdx, List.length_mapIdx]
  by_cases hkj : j = k
  · subst hkj
    rw [if_pos rfl]
    by_cases hl : j < ss.length
    · rw [if_pos hl, List.getElem?_eq_getElem hl]
      simp only [Option.map_some]
      rw [if_pos ⟨h, by omega, hk⟩]
    · rw [if_neg hl, List.getElem?_eq_none (by omega)]
      rfl
  · rw [if_neg hkj]
    cases ss[k]? with
    | none => rfl
    | some s =>
      simp only [Option.map_some, Option.some.injEq]
      have : (sy ≤ k ∧ k < j + 1 ∧ ks.getD (i + (k - sy)) false = false) ↔ (sy ≤ k ∧ k < j ∧ ks.getD (i + (k - sy)) false = false) := ⟨fun ⟨a, b, c⟩ => ⟨a, by omega, c⟩, fun ⟨a, b, c⟩ => ⟨a, by omega, c⟩⟩
      simp only [this]
end Go.Proofs.Ytakgkpiicigihaa
