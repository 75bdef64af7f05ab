/- sum: the contract of Crc; Twin. -/
import Derived.Test.YtgabklihgjjjeaaGreatDoorSa
namespace Go.Proofs.YtgabklihgjjjeaaGreatDoor.pk
open Go.RowKit
set_option linter.unusedVariables false

theorem and_one32 (y : Nat) (h : y < 4294967296) : bits .and .u32 (y : Int) 1 = ((y % 2 : Nat) : Int) := by
  have := u32_and_nat y 1 h (by omega)
  rw [Nat.and_one_is_mod] at this
  exact this
set_option maxHeartbeats 1000000 in
set_option maxRecDepth 100000 in
theorem crc_ok (v : Value) (bs : List Nat) (w : World) (h : Bs w v bs) :
    Calls Tryz.prog 68 #[v] w fun e w' => e = .returned (.int .u32 (crc bs)) ∧ w' = w := by
  obtain ⟨hby, a, c, rfl, hlc, hc9, hno, hx⟩ := h
  have HX := (show Hid _ from hx)
  have HY := (show Hid _ from hby)
  clear hx hby hno
  obtain ⟨L, hL⟩ : ∃ L, L = bs.length := ⟨_, rfl⟩
  have HL : Hid (L = bs.length) := hL
  rw [← hL] at hlc ⊢
  clear hL
  go_enter Tryz.func68, Tryz.ntmps68
  go_wp2_with fail
  go_loop [3, 9] (fun s i => ∃ k x : Nat, k ≤ L ∧ i = .int .i64 k ∧ s = .int .u32 x ∧ x < 4294967296 ∧ Hid (x = crcF 4294967295 (bs.take k))) (fun _ i => L - (intOf i).toNat)
  case atStart => exact ⟨0, 4294967295, by omega, rfl, rfl, by omega, rfl⟩
  case round =>
    obtain ⟨k, x, hk, rfl, rfl, hx64, hval⟩ := hrel
    by_cases hkl : k = L
    · subst hkl
      have hxor := u32_xor_nat x 4294967295 hx64 (by omega)
      rw [show ((4294967295 : Nat) : Int) = 4294967295 from rfl] at hxor
      go_wp2_with fail
      go_ret
      refine ⟨?_, rfl⟩
      have := hval.out
      rw [List.take_of_length_le (by have := HL.out; omega)] at this
      rw [this]
      rfl
    have hk' : k < L := by omega
    obtain ⟨b, off, rfl, hb, hc⟩ := HX.out (by have := HL.out; omega)
    have hcell := hc k (by have := HL.out; omega)
    unfold bt at hcell
    have hbt := bt_bd HY.out k
    unfold bt at hbt
    obtain ⟨q, hq⟩ : ∃ q, q = bs.getD k 0 := ⟨_, rfl⟩
    have HQ : Hid (q = bs.getD k 0) := hq
    rw [← hq] at hcell hbt
    clear hq hc HX
    have hxor := u32_xor_nat x q hx64 (by omega)
    have hlt := (show Hid _ from x32 (a := x) (b := q) hx64 (by omega))
    go_wp2_with fail
    go_loop [3, 17] (fun s i => ∃ j y : Nat, j ≤ 8 ∧ i = .int .i64 j ∧ s = .int .u32 y ∧ y < 4294967296 ∧ Hid (y = sts j (x ^^^ q))) (fun _ i => 8 - (intOf i).toNat)
    case atStart => exact ⟨0, x ^^^ q, by omega, rfl, rfl, hlt.out, rfl⟩
    case round =>
      clear hxor
      obtain ⟨j, y, hj, rfl, rfl, hy64, hyv⟩ := hrel
      by_cases hj8 : j = 8
      · subst hj8
        rw [show ((8 : Nat) : Int) = 8 from rfl]
        go_wp2_with fail
        refine ⟨⟨k + 1, y, by omega, by go_num, rfl, hy64, ?_⟩, by simp [intOf]; omega⟩
        show y = _
        rw [crcF_take _ _ _ (by have := HL.out; omega), ← hval.out, ← HQ.out, hyv.out]
        rfl
      have hj' : j < 8 := by omega
      have hand := and_one32 y hy64
      by_cases ho : y % 2 = 1
      · rw [ho, show ((1 : Nat) : Int) = 1 from rfl] at hand
        have hx2 := u32_xor_nat (y / 2) 3988292384 (by omega) (by omega)
        rw [show ((3988292384 : Nat) : Int) = 3988292384 from rfl, show ((y / 2 : Nat) : Int) = (y : Int) / 2 by omega] at hx2
        go_wp2_with fail
        refine ⟨⟨j + 1, (y / 2) ^^^ 3988292384, by omega, by go_num, rfl, x32 (by omega) (by omega), ?_⟩, by simp [intOf]; omega⟩
        show _ = st _
        rw [← hyv.out]
        unfold st
        rw [if_pos ho]
      · have ho' : y % 2 = 0 := by omega
        rw [ho', show ((0 : Nat) : Int) = 0 from rfl] at hand
        go_wp2_with fail
        refine ⟨⟨j + 1, y / 2, by omega, by go_num, by go_num, by omega, ?_⟩, by simp [intOf]; omega⟩
        show _ = st _
        rw [← hyv.out]
        unfold st
        rw [if_neg ho]
end Go.Proofs.YtgabklihgjjjeaaGreatDoor.pk
