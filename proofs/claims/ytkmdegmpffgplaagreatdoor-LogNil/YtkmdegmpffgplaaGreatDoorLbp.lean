/- log XV: a record on an idle disk, in plain words. -/
import Derived.Test.YtkmdegmpffgplaaGreatDoorLbo
namespace Go.Proofs.YtkmdegmpffgplaaGreatDoor
open Go.RowKit Go.Maps Go.Sort Go.Shelf pk
set_option linter.unusedVariables false
set_option linter.unusedSimpArgs false
theorem dgL_okc : ∀ k v, (dgL k v).all okc = true
  | 0, _ => rfl
  | k + 1, v => by
    unfold dgL
    rw [List.all_append, dgL_okc k]
    have : okc (UInt8.ofNat (48 + v % 10)) = true := by
      rw [okc_iff]
      have e : (UInt8.ofNat (48 + v % 10)).toNat = 48 + v % 10 := by
        show (48 + v % 10) % 256 = _
        omega
      rw [e]
      omega
    rw [List.all_cons, this]
    rfl
theorem nmS_is (n : Nat) : isNm (nmS n) = true := by
  unfold isNm
  rw [nmS_len]
  unfold nmS
  rw [List.all_cons, dgL_okc]
  decide
/-- the files behind a record -/
def rfs (fs : FS) (k : Nat) (bs : List Nat) : FS := doOp ⟨1, nmS k, [], 0⟩ (apd fs (nmS k) (parts bs))
theorem wrL_idle (R o : Nat) (fs : FS) (g : LG) (pl xs : List Nat) (hfit : fitA R fs (nmS (sgm g)) (cnt (secL g.next pl xs).length) = true) :
    wrL ⟨R, o, 0, true, none, fs⟩ g pl xs = (0, ⟨R, o + 1 + 1, 0, true, none, rfs fs (sgm g) (secL g.next pl xs)⟩, { g with high := sgm g }) := by
  have e1 : wl1 ⟨R, o, 0, true, none, fs⟩ g pl xs = (0, ⟨R, o + 1, 0, true, none, apd fs (nmS (sgm g)) (parts (secL g.next pl xs))⟩) := apnd_idle (nmS_is _) hfit
  have l1 : (lk (apd fs (nmS (sgm g)) (parts (secL g.next pl xs))) (nmS (sgm g))).isSome = true := by rw [lk_apd_same]; rfl
  have e2 : wl2 ⟨R, o + 1, 0, true, none, apd fs (nmS (sgm g)) (parts (secL g.next pl xs))⟩ g = (0, ⟨R, o + 1 + 1, 0, true, none, rfs fs (sgm g) (secL g.next pl xs)⟩) := oper_idle (nmS_is _) (fun h => by cases h) l1
  unfold wrL
  simp only [e1, e2, ne_eq, not_true_eq_false, if_false]
theorem lk_rfs_other (fs : FS) (k : Nat) (bs : List Nat) (l : List UInt8) (h : l ≠ nmS k) : lk (rfs fs k bs) l = lk fs l := by
  unfold rfs
  rw [sync_fs, lk_map _ _ (fun t => by split <;> rfl), lk_apd_other _ _ _ _ h]
  cases hl : lk fs l with
  | none => rfl
  | some t =>
    have e := (lk_nm hl).1
    simp [e, h]
theorem lk_rfs_new (fs : FS) (k : Nat) (bs : List Nat) (h : lk fs (nmS k) = none) : lk (rfs fs k bs) (nmS k) = some (nmS k, parts bs, (parts bs).length) := by
  unfold rfs
  rw [sync_fs, lk_map _ _ (fun t => by split <;> rfl), lk_apd_same, h]
  simp
theorem lk_rfs_more (fs : FS) (k : Nat) (bs : List Nat) (t : List UInt8 × List (List Nat) × Nat) (h : lk fs (nmS k) = some t) : lk (rfs fs k bs) (nmS k) = some (nmS k, t.2.1 ++ parts bs, (t.2.1 ++ parts bs).length) := by
  unfold rfs
  rw [sync_fs, lk_map _ _ (fun t => by split <;> rfl), lk_apd_same, h]
  have e := (lk_nm h).1
  simp [e]
theorem tot_rfs (fs : FS) (k : Nat) (bs : List Nat) : totA (rfs fs k bs) ≤ totA fs + (parts bs).length := by
  unfold rfs
  rw [sync_fs, ← tot_apd fs (nmS k)]
  exact tot_map_le _ _ (fun t => by split <;> exact Nat.le_refl _)
end Go.Proofs.YtkmdegmpffgplaaGreatDoor
/- log XVI: records behind one another, in plain words. -/
namespace Go.Proofs.YtkmdegmpffgplaaGreatDoor
open Go.RowKit Go.Maps Go.Sort Go.Shelf pk
set_option linter.unusedVariables false
set_option linter.unusedSimpArgs false
theorem flat_parts_aux (bs : List Nat) (C : Nat) (h : bs.length = 32 * C) : ∀ k, k ≤ C → ((List.range k).map (part bs)).flatMap pad32 = bs.take (32 * k)
  | 0, _ => rfl
  | k + 1, hk => by
    rw [List.range_succ, List.map_append, List.flatMap_append, flat_parts_aux bs C h k (by omega)]
    have hl : (part bs k).length ≤ 32 := by unfold part; simp; omega
    have hp : pad32 (part bs k) = (bs.drop (32 * k)).take 32 := by
      rw [pad32_eq _ hl]
      have e : part bs k = (bs.drop (32 * k)).take 32 := by
        unfold part
        rfl
      have hl2 : (part bs k).length = 32 := by rw [e, List.length_take, List.length_drop]; omega
      rw [hl2, e]
      simp
    show _ ++ (pad32 (part bs k) ++ []) = _
    rw [List.append_nil, hp, show 32 * (k + 1) = 32 * k + 32 by omega, List.take_add]
theorem flat_parts (bs : List Nat) (C : Nat) (h : bs.length = 32 * C) : flat (parts bs) = bs := by
  unfold flat parts
  rw [show cnt bs.length = C by unfold cnt; omega, flat_parts_aux bs C h C (Nat.le_refl _), ← h, List.take_length]
theorem flat_sec (num : Nat) (p xs : List Nat) : flat (parts (secL num p xs)) = secL num p xs := flat_parts _ _ (secL_len num p xs)
theorem segB_snoc (n : Nat) (rs : List Rc) (r : Rc) : segB n (rs ++ [r]) = segB n rs ++ secL (n + rs.length) r.1 r.2 := by
  induction rs generalizing n with
  | nil => show secL n r.1 r.2 ++ [] = [] ++ _; rw [List.append_nil]; rfl
  | cons a rs ih =>
    show secL n a.1 a.2 ++ segB (n + 1) (rs ++ [r]) = (secL n a.1 a.2 ++ segB (n + 1) rs) ++ _
    rw [ih (n + 1), List.append_assoc, List.length_cons, show n + 1 + rs.length = n + (rs.length + 1) by omega]
theorem lkd_snoc (g : LG) (rs : List Rc) (r : Rc) : Lkd g (rs ++ [r]) ↔ Lkd g rs ∧ (((adv g rs).empty = true ∧ (adv g rs).next ≠ 1) ∨ r.2 = chn (adv g rs).ahd r.1) := by
  induction rs generalizing g with
  | nil => show (_ ∧ True) ↔ (True ∧ _); rw [and_true, true_and]; rfl
  | cons a rs ih =>
    show (_ ∧ Lkd (g.fol a) (rs ++ [r])) ↔ ((_ ∧ Lkd (g.fol a) rs) ∧ _)
    rw [ih (g.fol a), and_assoc]
    rfl
theorem lkd_app (g : LG) (rs ts : List Rc) : Lkd g (rs ++ ts) ↔ Lkd g rs ∧ Lkd (adv g rs) ts := by
  induction rs generalizing g with
  | nil => show Lkd g ts ↔ (True ∧ Lkd g ts); rw [true_and]
  | cons a rs ih =>
    show (_ ∧ Lkd (g.fol a) (rs ++ ts)) ↔ ((_ ∧ Lkd (g.fol a) rs) ∧ Lkd (adv (g.fol a) rs) ts)
    rw [ih (g.fol a), and_assoc]
theorem adv_app (g : LG) (rs ts : List Rc) : adv g (rs ++ ts) = adv (adv g rs) ts := by
  induction rs generalizing g with
  | nil => rfl
  | cons a rs ih => exact ih (g.fol a)
end Go.Proofs.YtkmdegmpffgplaaGreatDoor
