/- pack: the contracts of ReadUint, ReadInt and ReadBytes. -/
import Derived.Test.YtcognhhbpapibaaDoorAd
namespace Go.Proofs.YtcognhhbpapibaaDoor
open Go.RowKit
set_option linter.unusedVariables false

/-- no number stands at the front -/
def Non (bs : List Nat) : Prop := ∀ n, n < 18446744073709551616 → ¬ enc n <+: bs
set_option maxRecDepth 100000 in
theorem andNot128 : ∀ x : Fin 256, bits .andNot .u8 ((x.val : Nat) : Int) 128 = ((x.val % 128 : Nat) : Int) := by decide +kernel
theorem pow7 (k : Nat) : (128 : Nat) ^ k = 2 ^ (7 * k) := by rw [Nat.pow_mul]
theorem mul_mod64 (m k : Nat) (hk : k ≤ 9) : m * 128 ^ k % 18446744073709551616 = (m % 2 ^ (64 - 7 * k)) * 2 ^ (7 * k) := by
  have e : (18446744073709551616 : Nat) = 2 ^ (64 - 7 * k) * 2 ^ (7 * k) := by
    rw [← Nat.pow_add, show 64 - 7 * k + 7 * k = 64 by omega]
  rw [pow7, e, Nat.mul_mod_mul_right]
theorem acc_nat (x m k : Nat) (hk : k ≤ 9) (hx : x < 128 ^ k) : x ||| m * 128 ^ k % 18446744073709551616 = x + m * 128 ^ k % 18446744073709551616 ∧ x + m * 128 ^ k % 18446744073709551616 < 18446744073709551616 := by
  rw [mul_mod64 m k hk]
  rw [pow7] at hx
  have h1 : m % 2 ^ (64 - 7 * k) < 2 ^ (64 - 7 * k) := Nat.mod_lt _ (Nat.pow_pos (by omega))
  have h2 : (m % 2 ^ (64 - 7 * k) + 1) * 2 ^ (7 * k) ≤ 2 ^ (64 - 7 * k) * 2 ^ (7 * k) := Nat.mul_le_mul_right _ (by omega)
  rw [← Nat.pow_add, show 64 - 7 * k + 7 * k = 64 by omega] at h2
  have h3 := Nat.shiftLeft_add_eq_or_of_lt hx (m % 2 ^ (64 - 7 * k))
  rw [Nat.shiftLeft_eq] at h3
  refine ⟨by rw [Nat.or_comm, ← h3, Nat.add_comm], ?_⟩
  rw [Nat.add_mul, Nat.one_mul] at h2
  have e : (2 : Nat) ^ 64 = 18446744073709551616 := by decide
  omega
theorem acc_eq {bs : List Nat} (k x : Nat) (hk : k ≤ 9) (hkl : k < bs.length) (hx : x = dv (bs.take k)) (hby : By bs) :
    bits .or .u64 (x : Int) (IntKind.u64.wrap (IntKind.u64.wrap (bits .andNot .u8 (bt bs k) 128) * 2 ^ (7 * k))) = ((x + bs.getD k 0 % 128 * 128 ^ k % 18446744073709551616 : Nat) : Int) ∧ x + bs.getD k 0 % 128 * 128 ^ k % 18446744073709551616 < 18446744073709551616 := by
  have hl : (bs.take k).length = k := by rw [List.length_take]; omega
  have hlt : x < 128 ^ k := by rw [hx]; have := dv_lt (bs.take k); rwa [hl] at this
  have h0 := acc_nat x (bs.getD k 0 % 128) k hk hlt
  have hb : bs.getD k 0 < 256 := by have := bt_bd hby k; unfold bt at this; omega
  have h1 : bits .andNot .u8 (bt bs k) 128 = ((bs.getD k 0 % 128 : Nat) : Int) := andNot128 ⟨bs.getD k 0, hb⟩
  refine ⟨?_, h0.2⟩
  rw [h1, ← h0.1]
  generalize bs.getD k 0 % 128 = m at *
  have e1 : IntKind.u64.wrap (m : Int) = ((m % 18446744073709551616 : Nat) : Int) := by rw [IntKind.wrap_u64]; omega
  have hx64 : x < 18446744073709551616 := by have := h0.2; omega
  have e2 : IntKind.u64.wrap (((m % 18446744073709551616 : Nat) : Int) * 2 ^ (7 * k)) = ((m * 128 ^ k % 18446744073709551616 : Nat) : Int) := by
    rw [IntKind.wrap_u64, pow7]
    have : (((m % 18446744073709551616 : Nat) : Int) * 2 ^ (7 * k)) = ((m % 18446744073709551616 * 2 ^ (7 * k) : Nat) : Int) := by simp
    rw [this, show (18446744073709551616 : Int) = ((18446744073709551616 : Nat) : Int) from rfl, ← Int.natCast_emod]
    congr 1
    rw [Nat.mul_mod, Nat.mod_mod, ← Nat.mul_mod]
  rw [e1, e2, bits_or_u64_nat x _ hx64 (Nat.mod_lt _ (by decide))]
theorem acc_mod (m k : Nat) (hk : k ≤ 8) : m % 128 * 128 ^ k % 18446744073709551616 = m % 128 * 128 ^ k := by
  refine Nat.mod_eq_of_lt ?_
  have h1 : 128 ^ k ≤ 128 ^ 8 := Nat.pow_le_pow_right (by omega) hk
  have e : (128 : Nat) ^ 8 = 72057594037927936 := by decide
  have h2 : m % 128 * 128 ^ k ≤ 127 * 128 ^ k := Nat.mul_le_mul_right _ (by omega)
  omega
theorem acc_end {bs : List Nat} {k : Nat} (h : may (bt bs k) (k : Int)) (hl : bs.getD k 0 < 128) (hk : k ≤ 9) : bs.getD k 0 % 128 * 128 ^ k % 18446744073709551616 = bs.getD k 0 % 128 * 128 ^ k := by
  by_cases h8 : k ≤ 8
  · exact acc_mod _ k h8
  · obtain rfl : k = 9 := by omega
    unfold may bt at h
    simp only [show ((9 : Nat) : Int) = 9 from rfl, if_true] at h
    have h1 : bs.getD 9 0 = 1 := by omega
    rw [h1]
theorem may_last {bs : List Nat} {k : Nat} (h : may (bt bs k) (k : Int)) : bs.getD k 0 ≠ 0 ∨ k = 0 := by
  unfold may bt at h
  split at h <;> omega
theorem may_not {bs : List Nat} {k : Nat} (h : ¬ may (bt bs k) (k : Int)) : (k = 9 ∧ bs.getD k 0 ≠ 1) ∨ (0 < k ∧ bs.getD k 0 = 0) := by
  unfold may bt at h
  split at h <;> omega
set_option maxHeartbeats 1000000 in
set_option maxRecDepth 100000 in
theorem readu_any (v : Value) (bs : List Nat) (w : World) (h : Bs w v bs) :
    Calls Tryd.prog 40 #[v] w fun e w' => ((∃ n k : Nat, e = .returned (.tuple #[.int .u64 n, .int .i64 k, .int .i64 0]) ∧ n < 18446744073709551616 ∧ k ≤ bs.length ∧ enc n = bs.take k) ∨ (e = .returned (.tuple #[.int .u64 0, .int .i64 0, .int .i64 3]) ∧ Non bs)) ∧ w' = w := by
  obtain ⟨hby, a, c, rfl, hlc, hc9, hno, hx⟩ := h
  have HX := (show Hid _ from hx)
  have HY := (show Hid _ from hby)
  clear hx hby hno
  obtain ⟨L, hL⟩ : ∃ L, L = bs.length := ⟨_, rfl⟩
  have HL : Hid (L = bs.length) := hL
  rw [← hL] at hlc ⊢
  clear hL
  by_cases hm : L ≤ 10
  · go_enter Tryd.func40, Tryd.ntmps40
    go_wp2_with fail
    go_loop [5, 14] (fun s i => ∃ k x : Nat, k ≤ L ∧ i = .int .i64 k ∧ s = .int .u64 x ∧ x ≤ 18446744073709551615 ∧ Hid (∀ j, j < k → 128 ≤ bs.getD j 0) ∧ Hid (k ≤ 9 → x = dv (bs.take k))) (fun _ i => L - (intOf i).toNat)
    case atStart => exact ⟨0, 0, by omega, rfl, rfl, by omega, fun j hj => by omega, fun _ => by simp [dv]⟩
    case round =>
      obtain ⟨k, x, hk, rfl, rfl, hx64, hall, hval⟩ := hrel
      by_cases hkl : k = L
      · subst hkl
        go_wp2_with fail
        go_ret3
        exact ⟨Or.inr ⟨rfl, fun n hn => front_none (i := k) (by have := HL.out; omega) hall.out (by have := HL.out; omega) hn⟩, rfl⟩
      have hk' : k < L := by omega
      obtain ⟨b, off, rfl, hb, hc⟩ := HX.out (by have := HL.out; omega)
      have hcell := hc k (by have := HL.out; omega)
      have hbt := bt_bd HY.out k
      have hacc := acc_eq k x (by omega) (by have := HL.out; omega) (hval.out (by omega)) HY.out
      have HA := (show Hid _ from hacc)
      clear hc HX hacc
      by_cases hb1 : 128 ≤ bt bs k
      · go_wp2_with fail
        refine ⟨⟨k + 1, _, by omega, by go_num, by rw [HA.out.1], by have := HA.out.2; omega, fun j hj => ?_, fun h9 => ?_⟩, by simp [intOf]; omega⟩
        · by_cases e : j = k
          · subst e; unfold bt at hb1; omega
          · exact hall.out j (by omega)
        · rw [dv_take bs k (by have := HL.out; omega), hval.out (by omega), acc_mod _ k (by omega)]
      · have hb1' : decide (128 ≤ bt bs k) = false := decide_eq_false hb1
        have hlast : Hid (bs.getD k 0 < 128) := by show _ < _; unfold bt at hb1; omega
        by_cases hmay : may (bt bs k) (k : Int)
        · have hd : decide (may (bt bs k) (k : Int)) = true := decide_eq_true hmay
          go_wp2_with fail
          refine (mayEnd_ok (bt bs k) k _ (by omega) (by omega)).mono ?_
          rintro e w1 ⟨rfl, rfl⟩
          rw [hd]
          clear hd
          go_wp2_with fail
          go_ret3
          refine ⟨Or.inl ⟨x + bs.getD k 0 % 128 * 128 ^ k % 18446744073709551616, k + 1, ?_, HA.out.2, by omega, ?_⟩, rfl⟩
          · rw [HA.out.1]; simp
          · rw [hval.out (by omega), acc_end hmay hlast.out (by omega), ← dv_take bs k (by have := HL.out; omega)]
            exact front_yes (by have := HL.out; omega) HY.out hall.out hlast.out (may_last hmay)
        · have hd : decide (may (bt bs k) (k : Int)) = false := decide_eq_false hmay
          go_wp2_with fail
          refine (mayEnd_ok (bt bs k) k _ (by omega) (by omega)).mono ?_
          rintro e w1 ⟨rfl, rfl⟩
          rw [hd]
          clear hd
          go_wp2_with fail
          go_ret3
          exact ⟨Or.inr ⟨rfl, fun n hn => front_not (i := k) (by have := HL.out; omega) hall.out hlast.out hn (may_not hmay)⟩, rfl⟩
  · have hm' : 10 < L := by omega
    go_enter Tryd.func40, Tryd.ntmps40
    go_wp2_with fail
    go_loop [5, 14] (fun s i => ∃ k x : Nat, k ≤ 10 ∧ i = .int .i64 k ∧ s = .int .u64 x ∧ x ≤ 18446744073709551615 ∧ Hid (∀ j, j < k → 128 ≤ bs.getD j 0) ∧ Hid (k ≤ 9 → x = dv (bs.take k))) (fun _ i => 10 - (intOf i).toNat)
    case atStart => exact ⟨0, 0, by omega, rfl, rfl, by omega, fun j hj => by omega, fun _ => by simp [dv]⟩
    case round =>
      obtain ⟨k, x, hk, rfl, rfl, hx64, hall, hval⟩ := hrel
      by_cases hkl : k = 10
      · subst hkl
        go_wp2_with fail
        go_ret3
        exact ⟨Or.inr ⟨rfl, fun n hn => front_none (i := 10) (by have := HL.out; omega) hall.out (by have := HL.out; omega) hn⟩, rfl⟩
      have hk' : k < 10 := by omega
      obtain ⟨b, off, rfl, hb, hc⟩ := HX.out (by have := HL.out; omega)
      have hcell := hc k (by have := HL.out; omega)
      have hbt := bt_bd HY.out k
      have hacc := acc_eq k x (by omega) (by have := HL.out; omega) (hval.out (by omega)) HY.out
      have HA := (show Hid _ from hacc)
      clear hc HX hacc
      by_cases hb1 : 128 ≤ bt bs k
      · go_wp2_with fail
        refine ⟨⟨k + 1, _, by omega, by go_num, by rw [HA.out.1], by have := HA.out.2; omega, fun j hj => ?_, fun h9 => ?_⟩, by simp [intOf]; omega⟩
        · by_cases e : j = k
          · subst e; unfold bt at hb1; omega
          · exact hall.out j (by omega)
        · rw [dv_take bs k (by have := HL.out; omega), hval.out (by omega), acc_mod _ k (by omega)]
      · have hb1' : decide (128 ≤ bt bs k) = false := decide_eq_false hb1
        have hlast : Hid (bs.getD k 0 < 128) := by show _ < _; unfold bt at hb1; omega
        by_cases hmay : may (bt bs k) (k : Int)
        · have hd : decide (may (bt bs k) (k : Int)) = true := decide_eq_true hmay
          go_wp2_with fail
          refine (mayEnd_ok (bt bs k) k _ (by omega) (by omega)).mono ?_
          rintro e w1 ⟨rfl, rfl⟩
          rw [hd]
          clear hd
          go_wp2_with fail
          go_ret3
          refine ⟨Or.inl ⟨x + bs.getD k 0 % 128 * 128 ^ k % 18446744073709551616, k + 1, ?_, HA.out.2, by omega, ?_⟩, rfl⟩
          · rw [HA.out.1]; simp
          · rw [hval.out (by omega), acc_end hmay hlast.out (by omega), ← dv_take bs k (by have := HL.out; omega)]
            exact front_yes (by have := HL.out; omega) HY.out hall.out hlast.out (may_last hmay)
        · have hd : decide (may (bt bs k) (k : Int)) = false := decide_eq_false hmay
          go_wp2_with fail
          refine (mayEnd_ok (bt bs k) k _ (by omega) (by omega)).mono ?_
          rintro e w1 ⟨rfl, rfl⟩
          rw [hd]
          clear hd
          go_wp2_with fail
          go_ret3
          exact ⟨Or.inr ⟨rfl, fun n hn => front_not (i := k) (by have := HL.out; omega) hall.out hlast.out hn (may_not hmay)⟩, rfl⟩
end Go.Proofs.YtcognhhbpapibaaDoor
