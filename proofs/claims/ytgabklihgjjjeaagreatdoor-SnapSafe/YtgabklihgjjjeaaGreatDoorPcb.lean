/- parts II: bodies as sectors, and back, in plain numbers. -/
import Derived.Test.YtgabklihgjjjeaaGreatDoorPca
import Derived.Test.YtgabklihgjjjeaaGreatDoorDkn
namespace Go.Proofs.YtgabklihgjjjeaaGreatDoor
open Go.RowKit Go.Shelf pk
set_option linter.unusedVariables false

/-- a sector of a part -/
def secB (mk : Nat) (hd s : List Nat) : List Nat := pad32 ([mk, s.length] ++ hd ++ s)
/-- a body as sectors, the first k of them -/
def cutK (mk : Nat) (hd : Nat → List Nat) (bs : List Nat) (k : Nat) : List Nat := (List.range k).flatMap fun i => secB mk (hd i) (prt4 bs i)
/-- .. all of them -/
def cutB (mk : Nat) (hd : Nat → Nat → List Nat) (bs : List Nat) : List Nat := cutK mk (fun i => hd i (cn4 bs.length)) bs (cn4 bs.length)
/-- the parts of the first k sectors -/
def joinK (ss : List Nat) (k : Nat) : List Nat := (List.range k).flatMap fun i => ((ss.drop (32 * i + 8)).take (min (ss.getD (32 * i + 1) 0) 24))
theorem secB_len (mk : Nat) (hd s : List Nat) : (secB mk hd s).length = 32 := pad32_len _
theorem cutK_succ (mk : Nat) (hd : Nat → List Nat) (bs : List Nat) (k : Nat) : cutK mk hd bs (k + 1) = cutK mk hd bs k ++ secB mk (hd k) (prt4 bs k) := by
  unfold cutK
  rw [List.range_succ, List.flatMap_append]
  simp
theorem cutK_len (mk : Nat) (hd : Nat → List Nat) (bs : List Nat) : ∀ k, (cutK mk hd bs k).length = 32 * k
  | 0 => rfl
  | k + 1 => by rw [cutK_succ, List.length_append, cutK_len mk hd bs k, secB_len]; omega
theorem joinK_succ (ss : List Nat) (k : Nat) : joinK ss (k + 1) = joinK ss k ++ ((ss.drop (32 * k + 8)).take (min (ss.getD (32 * k + 1) 0) 24)) := by
  unfold joinK
  rw [List.range_succ, List.flatMap_append]
  simp
theorem pad32_get (s : List Nat) (i : Nat) (hi : i < 32) : (pad32 s)[i]? = some (s.getD i 0) := by
  unfold pad32
  rw [List.getElem?_map, List.getElem?_range hi]
  rfl
/-- a byte of the k-th sector -/
theorem cutK_get (mk : Nat) (hd : Nat → List Nat) (bs : List Nat) (j : Nat) (hj : j < 32) : ∀ n k, k < n → (cutK mk hd bs n)[32 * k + j]? = some (([mk, (prt4 bs k).length] ++ hd k ++ prt4 bs k).getD j 0)
  | n + 1, k, hk => by
    rw [cutK_succ]
    by_cases h : k < n
    · rw [List.getElem?_append_left (by rw [cutK_len]; omega)]
      exact cutK_get mk hd bs j hj n k h
    · obtain rfl : k = n := by omega
      rw [List.getElem?_append_right (by rw [cutK_len]; omega), cutK_len, show 32 * k + j - 32 * k = j by omega]
      exact pad32_get _ j hj
theorem prt4_len (bs : List Nat) (k : Nat) : (prt4 bs k).length = min 24 (bs.length - 24 * k) := by unfold prt4; simp
theorem join_cut (mk : Nat) (hd : Nat → List Nat) (hh : ∀ i, (hd i).length = 6) (bs : List Nat) : ∀ k, k ≤ cn4 bs.length → joinK (cutK mk hd bs (cn4 bs.length)) k = bs.take (24 * k)
  | 0, _ => by simp [joinK]
  | k + 1, h => by
    have ih := join_cut mk hd hh bs k (by omega)
    have hl := prt4_len bs k
    have hk : 24 * k < bs.length := by unfold cn4 at h; omega
    have h1 : (cutK mk hd bs (cn4 bs.length)).getD (32 * k + 1) 0 = (prt4 bs k).length := by
      rw [List.getD_eq_getElem?_getD, cutK_get mk hd bs 1 (by omega) _ k (by omega)]
      rfl
    rw [joinK_succ, ih, h1]
    have e : ((cutK mk hd bs (cn4 bs.length)).drop (32 * k + 8)).take (min (prt4 bs k).length 24) = prt4 bs k := by
      refine List.ext_getElem? (fun i => ?_)
      by_cases hi : i < (prt4 bs k).length
      · rw [List.getElem?_take_of_lt (by omega), List.getElem?_drop, show 32 * k + 8 + i = 32 * k + (8 + i) by omega, cutK_get mk hd bs (8 + i) (by omega) _ k (by omega), List.getD_eq_getElem?_getD, List.getElem?_append_right (by simp [hh]), show (([mk, (prt4 bs k).length] ++ hd k).length) = 8 by simp [hh], show 8 + i - 8 = i by omega, List.getElem?_eq_getElem hi]
        rfl
      · rw [List.getElem?_eq_none (by rw [List.length_take]; omega), List.getElem?_eq_none (by omega)]
    rw [e]
    unfold prt4
    rw [show 24 * (k + 1) = 24 * k + 24 by omega, List.take_add]
theorem join_cutB (mk : Nat) (hd : Nat → Nat → List Nat) (hh : ∀ i c, (hd i c).length = 6) (bs : List Nat) : joinK (cutB mk hd bs) (cn4 bs.length) = bs := by
  unfold cutB
  rw [join_cut mk _ (fun i => hh i _) bs _ (Nat.le_refl _), List.take_of_length_le (by unfold cn4; omega)]
end Go.Proofs.YtgabklihgjjjeaaGreatDoor
