/- log XIV: a nil log, a nil disk; the document's answers. -/
import Derived.Test.YtkmdegmpffgplaaGreatDoorLbg
namespace Go.Proofs.YtkmdegmpffgplaaGreatDoor
open Go.RowKit Go.Maps Go.Sort Go.Shelf pk
set_option linter.unusedVariables false
set_option linter.unusedSimpArgs false
/-- what Append answers without a log; Open without a disk -/
def anil (L : Nat) : Nat := if 4096 < L then 2 else if L = 0 then 3 else 7
def onil (per : Int) : Nat := if per < 1 ∨ 1000 < per then 1 else 7
set_option maxRecDepth 100000 in
theorem append_nil (w : World) (a : Option Addr) (L k : Nat) : Calls Tryz.prog 9 #[.pointer none, .slice a L k] w fun r w' => r = .returned (.tuple #[.int .i64 0, .int .i64 (anil L : Nat)]) ∧ w' = w := by
  by_cases h1 : 4096 < L
  · have e : anil L = 2 := by unfold anil; rw [if_pos h1]
    rw [e]
    clear e
    have d1 : (4096 : Int) < (L : Int) := by omega
    go_enter Tryz.func9, Tryz.ntmps9
    go_wp2_with fail
    refine bodyPost_ret (v := .tuple #[.int .i64 0, .int .i64 2]) (by simp [results, Tryz.results9, go_sem, asAddr]) rfl ?_
    exact ⟨rfl, rfl⟩
  by_cases h2 : L = 0
  · have e : anil L = 3 := by unfold anil; rw [if_neg h1, if_pos h2]
    rw [e]
    clear e
    subst h2
    go_enter Tryz.func9, Tryz.ntmps9
    go_wp2_with fail
    refine bodyPost_ret (v := .tuple #[.int .i64 0, .int .i64 3]) (by simp [results, Tryz.results9, go_sem, asAddr]) rfl ?_
    exact ⟨rfl, rfl⟩
  have e : anil L = 7 := by unfold anil; rw [if_neg h1, if_neg h2]
  rw [e]
  clear e
  have d1 : ¬ (4096 : Int) < (L : Int) := by omega
  have d2 : ¬ (L : Int) = 0 := by omega
  have d3 : ((L : Int) == 0) = false := by simp; omega
  go_enter Tryz.func9, Tryz.ntmps9
  go_wp2_with fail
  refine bodyPost_ret (v := .tuple #[.int .i64 0, .int .i64 7]) (by simp [results, Tryz.results9, go_sem, asAddr]) rfl ?_
  exact ⟨rfl, rfl⟩
set_option maxRecDepth 100000 in
theorem docappend_nil (w : World) (a : Option Addr) (L k : Nat) : Calls Tryz.prog 11 #[.pointer none, .slice a L k] w fun r w' => r = .returned (.tuple #[.int .i64 0, .int .i64 (anil L : Nat)]) ∧ w' = w := by
  by_cases h1 : 4096 < L
  · have e : anil L = 2 := by unfold anil; rw [if_pos h1]
    rw [e]
    clear e
    have d1 : (4096 : Int) < (L : Int) := by omega
    go_enter Tryz.func11, Tryz.ntmps11
    go_wp2_with fail
    refine bodyPost_ret (v := .tuple #[.int .i64 0, .int .i64 2]) (by simp [results, Tryz.results11, go_sem, asAddr]) rfl ?_
    exact ⟨rfl, rfl⟩
  by_cases h2 : L = 0
  · have e : anil L = 3 := by unfold anil; rw [if_neg h1, if_pos h2]
    rw [e]
    clear e
    subst h2
    go_enter Tryz.func11, Tryz.ntmps11
    go_wp2_with fail
    refine bodyPost_ret (v := .tuple #[.int .i64 0, .int .i64 3]) (by simp [results, Tryz.results11, go_sem, asAddr]) rfl ?_
    exact ⟨rfl, rfl⟩
  have e : anil L = 7 := by unfold anil; rw [if_neg h1, if_neg h2]
  rw [e]
  clear e
  have d1 : ¬ (4096 : Int) < (L : Int) := by omega
  have d2 : ¬ (L : Int) = 0 := by omega
  have d3 : ((L : Int) == 0) = false := by simp; omega
  go_enter Tryz.func11, Tryz.ntmps11
  go_wp2_with fail
  refine bodyPost_ret (v := .tuple #[.int .i64 0, .int .i64 7]) (by simp [results, Tryz.results11, go_sem, asAddr]) rfl ?_
  exact ⟨rfl, rfl⟩
set_option maxRecDepth 100000 in
theorem open_nil (w : World) (per : Int) : Calls Tryz.prog 12 #[.pointer none, .int .i64 per] w fun r w' => r = .returned (.tuple #[.pointer none, .slice none 0 0, .int .i64 (onil per : Nat)]) ∧ w' = w := by
  by_cases h1 : per < 1
  · have e : onil per = 1 := by unfold onil; rw [if_pos (Or.inl h1)]
    rw [e]
    clear e
    go_enter Tryz.func12, Tryz.ntmps12
    go_wp2_with fail
    refine bodyPost_ret (v := .tuple #[.pointer none, .slice none 0 0, .int .i64 1]) (by simp [results, Tryz.results12, go_sem, asAddr]) rfl ?_
    exact ⟨rfl, rfl⟩
  by_cases h2 : 1000 < per
  · have e : onil per = 1 := by unfold onil; rw [if_pos (Or.inr h2)]
    rw [e]
    clear e
    go_enter Tryz.func12, Tryz.ntmps12
    go_wp2_with fail
    refine bodyPost_ret (v := .tuple #[.pointer none, .slice none 0 0, .int .i64 1]) (by simp [results, Tryz.results12, go_sem, asAddr]) rfl ?_
    exact ⟨rfl, rfl⟩
  have e : onil per = 7 := by unfold onil; rw [if_neg (by omega)]
  rw [e]
  clear e
  go_enter Tryz.func12, Tryz.ntmps12
  go_wp2_with fail
  refine bodyPost_ret (v := .tuple #[.pointer none, .slice none 0 0, .int .i64 7]) (by simp [results, Tryz.results12, go_sem, asAddr]) rfl ?_
  exact ⟨rfl, rfl⟩
set_option maxRecDepth 100000 in
theorem docopen_nil (w : World) (per : Int) : Calls Tryz.prog 13 #[.pointer none, .int .i64 per] w fun r w' => r = .returned (.tuple #[.pointer none, .slice none 0 0, .int .i64 (onil per : Nat)]) ∧ w' = w := by
  by_cases h1 : per < 1
  · have e : onil per = 1 := by unfold onil; rw [if_pos (Or.inl h1)]
    rw [e]
    clear e
    go_enter Tryz.func13, Tryz.ntmps13
    go_wp2_with fail
    refine bodyPost_ret (v := .tuple #[.pointer none, .slice none 0 0, .int .i64 1]) (by simp [results, Tryz.results13, go_sem, asAddr]) rfl ?_
    exact ⟨rfl, rfl⟩
  by_cases h2 : 1000 < per
  · have e : onil per = 1 := by unfold onil; rw [if_pos (Or.inr h2)]
    rw [e]
    clear e
    go_enter Tryz.func13, Tryz.ntmps13
    go_wp2_with fail
    refine bodyPost_ret (v := .tuple #[.pointer none, .slice none 0 0, .int .i64 1]) (by simp [results, Tryz.results13, go_sem, asAddr]) rfl ?_
    exact ⟨rfl, rfl⟩
  have e : onil per = 7 := by unfold onil; rw [if_neg (by omega)]
  rw [e]
  clear e
  go_enter Tryz.func13, Tryz.ntmps13
  go_wp2_with fail
  refine bodyPost_ret (v := .tuple #[.pointer none, .slice none 0 0, .int .i64 7]) (by simp [results, Tryz.results13, go_sem, asAddr]) rfl ?_
  exact ⟨rfl, rfl⟩
theorem prune_nil (w : World) (n : Int) : Calls Tryz.prog 15 #[.pointer none, .int .i64 n] w fun r w' => r = .returned (.int .i64 7) ∧ w' = w := by
  go_enter Tryz.func15, Tryz.ntmps15
  go_wp2_with fail
  go_ret
  exact ⟨rfl, rfl⟩
theorem first_nil (w : World) : Calls Tryz.prog 16 #[.pointer none] w fun r w' => r = .returned (.int .i64 0) ∧ w' = w := by
  go_enter Tryz.func16, Tryz.ntmps16
  go_wp2_with fail
  go_ret
  exact ⟨rfl, rfl⟩
theorem next_nil (w : World) : Calls Tryz.prog 17 #[.pointer none] w fun r w' => r = .returned (.int .i64 0) ∧ w' = w := by
  go_enter Tryz.func17, Tryz.ntmps17
  go_wp2_with fail
  go_ret
  exact ⟨rfl, rfl⟩
end Go.Proofs.YtkmdegmpffgplaaGreatDoor
/- log XV: a record on an idle disk, in plain words. -/
namespace Go.Proofs.YtkmdegmpffgplaaGreatDoor
open Go.RowKit Go.Maps Go.Sort Go.Shelf pk
set_option linter.unusedVariables false
set_option linter.unusedSimpArgs false
theorem dgL_okc : ∀ k v, (dgL k v).all okc = true
  | 0, _ => rfl
  | k + 1, v => by
    unfold dgL
    rw [List.all_append, dgL_okc k]
    have : okc (UInt8.ofNat (48 + v % 10)) = true := by
      rw [okc_iff]
      have e : (UInt8.ofNat (48 + v % 10)).toNat = 48 + v % 10 := by
        show (48 + v % 10) % 256 = _
        omega
      rw [e]
      omega
    rw [List.all_cons, this]
    rfl
theorem nmS_is (n : Nat) : isNm (nmS n) = true := by
  unfold isNm
  rw [nmS_len]
  unfold nmS
  rw [List.all_cons, dgL_okc]
  decide
/-- the files behind a record -/
def rfs (fs : FS) (k : Nat) (bs : List Nat) : FS := doOp ⟨1, nmS k, [], 0⟩ (apd fs (nmS k) (parts bs))
theorem wrL_idle (R o : Nat) (fs : FS) (g : LG) (pl xs : List Nat) (hfit : fitA R fs (nmS (sgm g)) (cnt (secL g.next pl xs).length) = true) :
    wrL ⟨R, o, 0, true, none, fs⟩ g pl xs = (0, ⟨R, o + 1 + 1, 0, true, none, rfs fs (sgm g) (secL g.next pl xs)⟩, { g with high := sgm g }) := by
  have e1 : wl1 ⟨R, o, 0, true, none, fs⟩ g pl xs = (0, ⟨R, o + 1, 0, true, none, apd fs (nmS (sgm g)) (parts (secL g.next pl xs))⟩) := apnd_idle (nmS_is _) hfit
  have l1 : (lk (apd fs (nmS (sgm g)) (parts (secL g.next pl xs))) (nmS (sgm g))).isSome = true := by rw [lk_apd_same]; rfl
  have e2 : wl2 ⟨R, o + 1, 0, true, none, apd fs (nmS (sgm g)) (parts (secL g.next pl xs))⟩ g = (0, ⟨R, o + 1 + 1, 0, true, none, rfs fs (sgm g) (secL g.next pl xs)⟩) := oper_idle (nmS_is _) (fun h => by cases h) l1
  unfold wrL
  simp only [e1, e2, ne_eq, not_true_eq_false, if_false]
theorem lk_rfs_other (fs : FS) (k : Nat) (bs : List Nat) (l : List UInt8) (h : l ≠ nmS k) : lk (rfs fs k bs) l = lk fs l := by
  unfold rfs
  rw [sync_fs, lk_map _ _ (fun t => by split <;> rfl), lk_apd_other _ _ _ _ h]
  cases hl : lk fs l with
  | none => rfl
  | some t =>
    have e := (lk_nm hl).1
    simp [e, h]
theorem lk_rfs_new (fs : FS) (k : Nat) (bs : List Nat) (h : lk fs (nmS k) = none) : lk (rfs fs k bs) (nmS k) = some (nmS k, parts bs, (parts bs).length) := by
  unfold rfs
  rw [sync_fs, lk_map _ _ (fun t => by split <;> rfl), lk_apd_same, h]
  simp
theorem lk_rfs_more (fs : FS) (k : Nat) (bs : List Nat) (t : List UInt8 × List (List Nat) × Nat) (h : lk fs (nmS k) = some t) : lk (rfs fs k bs) (nmS k) = some (nmS k, t.2.1 ++ parts bs, (t.2.1 ++ parts bs).length) := by
  unfold rfs
  rw [sync_fs, lk_map _ _ (fun t => by split <;> rfl), lk_apd_same, h]
  have e := (lk_nm h).1
  simp [e]
theorem tot_rfs (fs : FS) (k : Nat) (bs : List Nat) : totA (rfs fs k bs) ≤ totA fs + (parts bs).length := by
  unfold rfs
  rw [sync_fs, ← tot_apd fs (nmS k)]
  exact tot_map_le _ _ (fun t => by split <;> exact Nat.le_refl _)
end Go.Proofs.YtkmdegmpffgplaaGreatDoor
