/- Texts of days: the contract of value. -/
import Derived.Test.YtfmmkbhaaifggaaDoorCi
namespace Go.Proofs.YtfmmkbhaaifggaaDoor
open Go.RowKit
set_option linter.unusedVariables false

/-- a byte of a text, as a number -/
def chr (s : ByteArray) (i : Nat) : Int := if h : i < s.size then (s[i].toNat : Int) else 0
theorem chr_at {s : ByteArray} {i : Nat} (h : i < s.size) : chr s i = (s[i].toNat : Int) := dif_pos h
theorem chr_bd (s : ByteArray) (i : Nat) : 0 ≤ chr s i ∧ chr s i ≤ 255 := by
  unfold chr
  split
  · have := s[i].toNat_lt; omega
  · omega
/-- what the first k bytes tell, read as digits -/
def dval (s : ByteArray) : Nat → Int
  | 0 => 0
  | k + 1 => dval s k * 10 + (chr s k - 48) % 256
theorem dval_bd (s : ByteArray) : ∀ k, k ≤ 4 → 0 ≤ dval s k ∧ dval s k ≤ 300000
  | 0, _ => by simp [dval]
  | 1, _ => by simp [dval]; omega
  | 2, _ => by simp [dval]; omega
  | 3, _ => by simp [dval]; omega
  | 4, _ => by simp [dval]; omega
  | k + 5, h => by omega
theorem value_ok (s : ByteArray) (w : World) (h : s.size ≤ 4) :
    Calls Tryd.prog 12 #[.string s] w fun e w' => e = .returned (.int .i64 (dval s s.size)) ∧ w' = w := by
  go_enter Tryd.func12, Tryd.ntmps12
  go_wp2_with fail
  go_loop [3, 7] (fun t i => ∃ k : Nat, k ≤ s.size ∧ i = .int .i64 k ∧ t = .int .i64 (dval s k)) (fun _ i => s.size - (intOf i).toNat)
  case atStart => exact ⟨0, by omega, rfl, rfl⟩
  case round =>
    obtain ⟨k, hk, rfl, rfl⟩ := hrel
    have b := dval_bd s k (by omega)
    by_cases hks : k = s.size
    · have hn : ¬ k < s.size := by omega
      have HK : Hid (k = s.size) := hks
      clear hks
      go_wp2_with fail
      go_ret
      exact ⟨by rw [← HK.out]; rfl, rfl⟩
    · have hlt : k < s.size := by omega
      have HC : Hid (dval s (k + 1) = dval s k * 10 + ((s[k].toNat : Int) - 48) % 256) := by
        show dval s k * 10 + (chr s k - 48) % 256 = _
        rw [chr_at hlt]
      clear hks
      go_wp2_with fail
      exact ⟨⟨k + 1, by omega, by go_num, by rw [HC.out]⟩, by simp [intOf]; omega⟩
end Go.Proofs.YtfmmkbhaaifggaaDoor
