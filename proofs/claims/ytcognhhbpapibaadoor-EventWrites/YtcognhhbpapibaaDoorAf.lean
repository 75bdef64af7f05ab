/- pack: ReadUint where a number stands at the front, and where none does; the contracts of ReadInt and ReadBytes. -/
import Derived.Test.YtcognhhbpapibaaDoorAe
namespace Go.Proofs.YtcognhhbpapibaaDoor
open Go.RowKit
set_option linter.unusedVariables false

theorem front_len {n k : Nat} {bs : List Nat} (h : enc n = bs.take k) (hk : k ≤ bs.length) : k = (enc n).length := by
  rw [h, List.length_take]; omega
theorem readu_yes (v : Value) (bs : List Nat) (n : Nat) (w : World) (h : Bs w v bs) (hn : n < 18446744073709551616) (hf : enc n <+: bs) :
    Calls Tryd.prog 40 #[v] w fun e w' => e = .returned (.tuple #[.int .u64 n, .int .i64 (enc n).length, .int .i64 0]) ∧ w' = w := by
  refine (readu_any v bs w h).mono ?_
  rintro e w1 ⟨h1 | h1, h2⟩
  · obtain ⟨m, k, rfl, hm, hk, he⟩ := h1
    obtain rfl := enc_inj_front m n bs (by rw [he]; exact List.take_prefix _ _) hf
    rw [front_len he hk]
    exact ⟨rfl, h2⟩
  · exact absurd hf (h1.2 n hn)
theorem readu_no (v : Value) (bs : List Nat) (w : World) (h : Bs w v bs) (hf : Non bs) :
    Calls Tryd.prog 40 #[v] w fun e w' => e = .returned (.tuple #[.int .u64 0, .int .i64 0, .int .i64 3]) ∧ w' = w := by
  refine (readu_any v bs w h).mono ?_
  rintro e w1 ⟨h1 | h1, h2⟩
  · obtain ⟨m, k, rfl, hm, hk, he⟩ := h1
    exact absurd (by rw [he]; exact List.take_prefix _ _) (hf m hm)
  · exact ⟨h1.1, h2⟩
theorem readi_no (v : Value) (bs : List Nat) (w : World) (h : Bs w v bs) (hf : Non bs) :
    Calls Tryd.prog 42 #[v] w fun e w' => e = .returned (.tuple #[.int .i64 0, .int .i64 0, .int .i64 3]) ∧ w' = w := by
  go_enter Tryd.func42, Tryd.ntmps42
  go_wp2_with fail
  refine (readu_no v bs _ h hf).mono ?_
  rintro e w1 ⟨rfl, rfl⟩
  go_wp2_with fail
  go_ret3
  exact ⟨rfl, rfl⟩
theorem and_one (n : Nat) (hn : n < 18446744073709551616) : bits .and .u64 (n : Int) 1 = ((n % 2 : Nat) : Int) := by
  have h := bits_and_u64_nat n 1 hn (by omega)
  rw [Nat.and_one_is_mod] at h
  exact h
theorem xor_i64 (a b : Nat) (ha : a < 18446744073709551616) (x : Int) (hx : BitVec.ofInt 64 x = BitVec.ofNat 64 b) (hb : b < 18446744073709551616) : bits .xor .i64 (a : Int) x = IntKind.i64.wrap ((a ^^^ b : Nat) : Int) := by
  have h1 : (BitVec.ofInt 64 (a : Int)).toNat = a := by
    rw [BitVec.ofInt_natCast, BitVec.toNat_ofNat]; exact Nat.mod_eq_of_lt (by omega)
  have h2 : (BitVec.ofNat 64 b).toNat = b := by rw [BitVec.toNat_ofNat]; exact Nat.mod_eq_of_lt (by omega)
  show IntKind.i64.wrap ((BitVec.ofInt 64 (a : Int) ^^^ BitVec.ofInt 64 x).toNat : Int) = _
  rw [hx, BitVec.toNat_xor, h1, h2]
theorem uz_code (n : Nat) (hn : n < 18446744073709551616) : bits .xor .i64 ((n : Int) / 2) (wrap64 (-wrap64 (bits .and .u64 (n : Int) 1))) = uz n := by
  rw [and_one n hn, show ((n : Int) / 2) = ((n / 2 : Nat) : Int) by omega]
  rcases Nat.mod_two_eq_zero_or_one n with h | h
  · rw [h, show wrap64 (-wrap64 ((0 : Nat) : Int)) = 0 by decide +kernel, xor_i64 (n / 2) 0 (by omega) 0 (by decide) (by omega), Nat.xor_zero]
    unfold uz
    rw [if_neg (by omega), IntKind.wrap_i64]
    omega
  · rw [h, show wrap64 (-wrap64 ((1 : Nat) : Int)) = -1 by decide +kernel, xor_i64 (n / 2) 18446744073709551615 (by omega) (-1) (by decide) (by omega), xor_ones _ (by omega)]
    unfold uz
    rw [if_pos h, IntKind.wrap_i64]
    omega
theorem readi_yes (v : Value) (bs : List Nat) (n : Nat) (w : World) (h : Bs w v bs) (hn : n < 18446744073709551616) (hf : enc n <+: bs) :
    Calls Tryd.prog 42 #[v] w fun e w' => e = .returned (.tuple #[.int .i64 (uz n), .int .i64 (enc n).length, .int .i64 0]) ∧ w' = w := by
  have HF : Hid (enc n <+: bs) := hf
  have hl := enc_len hn
  clear hf
  go_enter Tryd.func42, Tryd.ntmps42
  go_wp2_with fail
  refine (readu_yes v bs n _ h hn HF.out).mono ?_
  rintro e w1 ⟨rfl, rfl⟩
  have HU := (show Hid _ from uz_code n hn)
  go_wp2_with fail
  go_ret3
  exact ⟨by rw [← HU.out]; rfl, rfl⟩
theorem Lies.mid {w : World} {a : Option Addr} {bs : List Nat} (h : Lies w a bs) (k n : Nat) (hk : k + n ≤ bs.length) : Lies w (a.map (fun x => x.add k)) ((bs.drop k).take n) := fun h0 => by
  have hl : ((bs.drop k).take n).length = n := by rw [List.length_take, List.length_drop]; omega
  obtain ⟨b, off, e, hb, hx⟩ := h (by omega)
  subst e
  refine ⟨b, off + k, by simp [Addr.add], hb, fun j hj => ?_⟩
  rw [bt_take _ n j (by omega), bt_drop, Nat.add_assoc]
  exact hx (k + j) (by omega)
theorem Bs.mid {w : World} {a : Option Addr} {L c : Nat} {bs : List Nat} (h : Bs w (.slice a L c) bs) (k n : Nat) (hk : k + n ≤ L) (hc : ¬ c = k) : Bs w (.slice (a.map (fun x => x.add k)) n (c - k)) ((bs.drop k).take n) := by
  obtain ⟨hb, a', c', e, h1, h2, h3, h4⟩ := h
  cases e
  have hl : ((bs.drop k).take n).length = n := by rw [List.length_take, List.length_drop]; omega
  refine ⟨(hb.drop k).take n, _, _, by rw [hl], by omega, by omega, fun h => ?_, h4.mid k n hk⟩
  cases a with
  | none => have := h3 rfl; omega
  | some x => simp at h
theorem Bs.end {w : World} {a : Option Addr} {L c : Nat} {bs : List Nat} (h : Bs w (.slice a L c) bs) (k n : Nat) (hk : k + n ≤ L) (hc : c = k) : Bs w (.slice a n 0) ((bs.drop k).take n) := by
  obtain ⟨hb, a', c', e, h1, h2, h3, h4⟩ := h
  cases e
  obtain rfl : n = 0 := by omega
  rw [List.take_zero]
  exact ⟨By.nil, a, 0, rfl, by simp, by omega, fun _ => rfl, fun h => by simp at h⟩
end Go.Proofs.YtcognhhbpapibaaDoor
