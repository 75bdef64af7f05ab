/- disk XXIX: what a few calls leave; the walk of DiskTruncated. -/
import Derived.Test.YtgabklihgjjjeaaGreatDoorDlc
import Derived.Test.YtgabklihgjjjeaaGreatDoorAc
namespace Go.Proofs.YtgabklihgjjjeaaGreatDoor
open Go.RowKit Go.Maps Go.Sort Go.Shelf pk
set_option linter.unusedVariables false

theorem fitA_of {room : Nat} {fs : FS} {l : List UInt8} {k : Nat} (h1 : (lk fs l).isSome = true ∨ fs.length ≠ 64) (h2 : k + totA fs ≤ room) : fitA room fs l k = true := by
  unfold fitA
  have h3 : decide (k ≤ room - totA fs) = true := by simp; omega
  rw [h3, Bool.and_true]
  unfold lk at h1
  rcases h1 with h1 | h1
  · cases hh : fs.find? (fun t => t.1 == l) with
    | none => rw [hh] at h1; cases h1
    | some t => rfl
  · simp [h1]
theorem apnd_ok {x : AD} {l : List UInt8} {bs : List Nat} (h1 : isNm l = true) (h2 : fitA x.room x.fs l (cnt bs.length) = true) (h3 : x.on = true) : apnd x l bs = (if (begA x).on then 0 else 18, { begA x with fs := apd x.fs l (parts bs) }) := by
  unfold apnd; rw [if_neg (by rw [h1]; simp), if_neg (by rw [h2]; simp), if_neg (by rw [h3]; simp)]
theorem cut_min (w : World) (n k z : Nat) (hn : n ≤ 9223372036854775807) (hz : z = min n k) : (Builtin.min_ #[3, 3] 3 #[.int .i64 (n : Int), .int .i64 (k : Int)]).run Tryz.prog w = .ok (.int .i64 (z : Int)) w := by
  rw [run_min_int2]
  congr 2
  split <;> omega
theorem seen_on {x : AD} {l : List UInt8} {t : List UInt8 × List (List Nat) × Nat} (h1 : isNm l = true) (h2 : lk x.fs l = some t) (h3 : x.on = true) : seen x l = (0, t.2.1) := by
  unfold seen; rw [if_neg (by rw [h1]; simp), h2]; simp [h3]
theorem parts_len (bs : List Nat) : (parts bs).length = cnt bs.length := by simp [parts]
theorem flat_take (ss : List (List Nat)) (n : Nat) : flat (ss.take n) = (flat ss).take (32 * n) := by
  induction ss generalizing n with
  | nil => simp [flat]
  | cons s ss ih =>
    cases n with
    | zero => simp [flat]
    | succ n =>
      show pad32 s ++ flat (ss.take n) = (pad32 s ++ flat ss).take (32 * (n + 1))
      rw [ih, List.take_append, List.take_of_length_le (l := pad32 s) (by rw [pad32_len]; omega), pad32_len, show 32 * (n + 1) - 32 = 32 * n by omega]
end Go.Proofs.YtgabklihgjjjeaaGreatDoor
