/- The document's pack: DocReadUint, DocReadInt, DocReadBytes; Spare and Kept. -/
import Derived.Test.YtcognhhbpapibaaDoorAj
namespace Go.Proofs.YtcognhhbpapibaaDoor
open Go.RowKit
set_option linter.unusedVariables false

theorem docacc {bs : List Nat} (k x : Nat) (hk : k ≤ 9) (hkl : k < bs.length) (hx : x = dv (bs.take k)) :
    x + bs.getD k 0 % 128 * 128 ^ k % 18446744073709551616 < 18446744073709551616 := by
  have hl : (bs.take k).length = k := by rw [List.length_take]; omega
  have hlt : x < 128 ^ k := by rw [hx]; have := dv_lt (bs.take k); rwa [hl] at this
  exact (acc_nat x (bs.getD k 0 % 128) k hk hlt).2
theorem bt_rem (bs : List Nat) (k : Nat) : bt bs k % 128 = ((bs.getD k 0 % 128 : Nat) : Int) := by unfold bt; omega
theorem place_lt (k : Nat) (h : k ≤ 9) : 128 ^ k ≤ 9223372036854775808 := by
  have := Nat.pow_le_pow_right (n := 128) (by omega) h
  have e : (128 : Nat) ^ 9 = 9223372036854775808 := by decide
  omega
set_option maxHeartbeats 2000000 in
set_option maxRecDepth 100000 in
theorem docu_any (v : Value) (bs : List Nat) (w : World) (h : Bs w v bs) :
    Calls Tryd.prog 29 #[v] w fun e w' => ((∃ n k : Nat, e = .returned (.tuple #[.int .u64 n, .int .i64 k, .int .i64 0]) ∧ n < 18446744073709551616 ∧ k ≤ bs.length ∧ enc n = bs.take k) ∨ (e = .returned (.tuple #[.int .u64 0, .int .i64 0, .int .i64 3]) ∧ Non bs)) ∧ Below w.heap.size w w' := by
  have H := (show Hid _ from h)
  obtain ⟨hby, a, c, rfl, hlc, hc9, hno, hx⟩ := h
  have HX := (show Hid _ from hx)
  have HY := (show Hid _ from hby)
  clear hx hby hno
  obtain ⟨L, hL⟩ : ∃ L, L = bs.length := ⟨_, rfl⟩
  have HL : Hid (L = bs.length) := hL
  rw [← hL] at hlc H ⊢
  clear hL
  go_enter Tryd.func29, Tryd.ntmps29
  go_wp2_with fail
  go_loop [5, 6, 7] (fun s q i => ∃ k x y : Nat, k ≤ L ∧ k ≤ 10 ∧ i = .int .i64 k ∧ s = .int .u64 x ∧ q = .int .u64 y ∧ x ≤ 18446744073709551615 ∧ y ≤ 18446744073709551615 ∧ Hid (∀ j, j < k → 128 ≤ bs.getD j 0) ∧ Hid (k ≤ 9 → x = dv (bs.take k) ∧ y = 128 ^ k)) (fun _ _ i => L - (intOf i).toNat)
  case atStart => exact ⟨0, 0, 1, by omega, by omega, rfl, rfl, rfl, by omega, by omega, fun j hj => by omega, fun _ => by simp [dv]⟩
  case round =>
    obtain ⟨k, x, y, hk, hk10, rfl, rfl, rfl, hx64, hy64, hall, hval⟩ := hrel
    by_cases hkl : k = L
    · subst hkl
      go_wp2_with fail
      go_ret3
      exact ⟨Or.inr ⟨rfl, fun n hn => front_none (i := k) (by have := HL.out; omega) hall.out (by have := HL.out; omega) hn⟩, Below.refl _ _⟩
    have hk' : k < L := by omega
    by_cases hk9 : k = 10
    · subst hk9
      go_wp2_with fail
      go_ret3
      exact ⟨Or.inr ⟨rfl, fun n hn => front_none (i := 10) (by have := HL.out; omega) hall.out (by have := HL.out; omega) hn⟩, Below.refl _ _⟩
    have hk'' : k < 10 := by omega
    obtain ⟨hxv, rfl⟩ := hval.out (by omega)
    have HV := (show Hid _ from hxv)
    clear hval hxv
    obtain ⟨b, off, rfl, hb, hc⟩ := HX.out (by have := HL.out; omega)
    have hcell := hc k (by have := HL.out; omega)
    have hbt := bt_bd HY.out k
    have hrem := bt_rem bs k
    have HA := (show Hid _ from docacc k x (by omega) (by have := HL.out; omega) HV.out)
    have hpl := place_lt k (by omega)
    clear hc HX
    obtain ⟨m, hm⟩ : ∃ m, m = bs.getD k 0 % 128 := ⟨_, rfl⟩
    have HM : Hid (m = bs.getD k 0 % 128) := hm
    rw [← hm] at hrem HA
    have hm128 : m < 128 := by omega
    obtain ⟨pl, hpe⟩ : ∃ pl, pl = 128 ^ k := ⟨_, rfl⟩
    have HPL : Hid (pl = 128 ^ k) := hpe
    rw [← hpe] at hpl HA hy64 ⊢
    clear hm hpe
    obtain ⟨N, hN⟩ : ∃ N, N = x + m * pl % 18446744073709551616 := ⟨_, rfl⟩
    have HN : Hid (N = x + m * pl % 18446744073709551616) := hN
    rw [← hN] at HA
    have hsum : IntKind.u64.wrap ((x : Int) + IntKind.u64.wrap ((m : Int) * (pl : Int))) = (N : Int) := by
      rw [IntKind.wrap_u64, IntKind.wrap_u64, ← Int.natCast_mul]
      have := HA.out
      omega
    have hpl2 : IntKind.u64.wrap ((pl : Int) * 128) = ((pl * 128 % 18446744073709551616 : Nat) : Int) := by rw [IntKind.wrap_u64]; omega
    have hN64 := HA.out
    clear hN HA
    by_cases hb1 : bt bs k < 128
    · have hlast : Hid (bs.getD k 0 < 128) := by show _ < _; unfold bt at hb1; omega
      go_wp2_with fail
      refine (ruint_ok _ _ (by omega)).mono ?_
      rintro e w1 ⟨⟨q, rfl, ho⟩, hb1⟩
      rw [Int.toNat_natCast] at ho
      have Q := (show Hid _ from ho.bs)
      have G := (show Hid _ from hb1)
      replace H := (show Hid _ from H.out.step hb1)
      clear ho hb1 hcell
      obtain ⟨aq, cq, rfl, q1, q2, q3, q4⟩ := Q.out.form
      clear q3 q4
      by_cases hmay : may (bt bs k) (k : Int)
      · have hen : Hid (enc N = bs.take (k + 1) ∧ (enc N).length = k + 1) := by
          have h1 : N = dv (bs.take (k + 1)) := by
            rw [HN.out, HV.out, HM.out, HPL.out, acc_end hmay hlast.out (by omega), ← dv_take bs k (by have := HL.out; omega)]
          have h2 : enc N = bs.take (k + 1) := by
            rw [h1]
            exact front_yes (by have := HL.out; omega) HY.out hall.out hlast.out (may_last hmay)
          exact ⟨h2, by rw [h2, List.length_take]; have := HL.out; omega⟩
        rw [hen.out.2] at q1 Q ⊢
        have e1 : ((k : Int) + 1 == (k : Int) + 1) = true := by simp
        go_wp2_with fail
        refine (front_t _ _ bs (enc N) _ H.out Q.out (by rw [hen.out.1]; exact List.take_prefix _ _)).mono ?_
        rintro e w2 ⟨rfl, hb2⟩
        replace G := (show Hid _ from G.out.trans (hb2.mono G.out.size))
        clear hb2 Q H
        go_wp2_with fail
        go_ret3
        exact ⟨Or.inl ⟨N, k + 1, by simp, hN64, by omega, hen.out.1⟩, G.out⟩
      · obtain ⟨kq, ekq⟩ : ∃ kq, kq = (enc N).length := ⟨_, rfl⟩
        rw [← ekq] at q1 Q ⊢
        clear ekq
        have hnot := (show Hid _ from fun n (hn : n < 18446744073709551616) => front_not (i := k) (n := n) (by have := HL.out; omega) hall.out hlast.out hn (may_not hmay))
        go_wp2_with fail
        refine (front_f _ _ bs (enc N) _ H.out Q.out (hnot.out N hN64)).mono ?_
        rintro e w2 ⟨rfl, hb2⟩
        replace G := (show Hid _ from G.out.trans (hb2.mono G.out.size))
        clear hb2 Q H
        go_wp2_with fail
        go_ret3
        exact ⟨Or.inr ⟨rfl, fun n hn => hnot.out n hn⟩, G.out⟩
    · have hb1' : decide (bt bs k < 128) = false := decide_eq_false hb1
      go_wp2_with fail
      refine ⟨⟨k + 1, N, pl * 128 % 18446744073709551616, by omega, by omega, by go_num, rfl, by go_num, by omega, by omega, fun j hj => ?_, fun h9 => ⟨?_, ?_⟩⟩, by simp [intOf]; omega⟩
      · by_cases e : j = k
        · subst e; unfold bt at hb1; omega
        · exact hall.out j (by omega)
      · rw [HN.out, HV.out, HM.out, HPL.out, acc_mod _ k (by omega), ← dv_take bs k (by have := HL.out; omega)]
      · rw [HPL.out, Nat.pow_succ]
        have := place_lt (k + 1) (by omega)
        rw [Nat.pow_succ] at this
        omega
theorem docu_yes (v : Value) (bs : List Nat) (n : Nat) (w : World) (h : Bs w v bs) (hn : n < 18446744073709551616) (hf : enc n <+: bs) :
    Calls Tryd.prog 29 #[v] w fun e w' => e = .returned (.tuple #[.int .u64 n, .int .i64 (enc n).length, .int .i64 0]) ∧ Below w.heap.size w w' := by
  refine (docu_any v bs w h).mono ?_
  rintro e w1 ⟨h1 | h1, h2⟩
  · obtain ⟨m, k, rfl, hm, hk, he⟩ := h1
    obtain rfl := enc_inj_front m n bs (by rw [he]; exact List.take_prefix _ _) hf
    rw [front_len he hk]
    exact ⟨rfl, h2⟩
  · exact absurd hf (h1.2 n hn)
theorem docu_no (v : Value) (bs : List Nat) (w : World) (h : Bs w v bs) (hf : Non bs) :
    Calls Tryd.prog 29 #[v] w fun e w' => e = .returned (.tuple #[.int .u64 0, .int .i64 0, .int .i64 3]) ∧ Below w.heap.size w w' := by
  refine (docu_any v bs w h).mono ?_
  rintro e w1 ⟨h1 | h1, h2⟩
  · obtain ⟨m, k, rfl, hm, hk, he⟩ := h1
    exact absurd (by rw [he]; exact List.take_prefix _ _) (hf m hm)
  · exact ⟨h1.1, h2⟩
theorem doci_no (v : Value) (bs : List Nat) (w : World) (h : Bs w v bs) (hf : Non bs) :
    Calls Tryd.prog 39 #[v] w fun e w' => e = .returned (.tuple #[.int .i64 0, .int .i64 0, .int .i64 3]) ∧ Below w.heap.size w w' := by
  go_enter Tryd.func39, Tryd.ntmps39
  go_wp2_with fail
  refine (docu_no v bs _ h hf).mono ?_
  rintro e w1 ⟨rfl, hb⟩
  have G := (show Hid _ from hb)
  clear hb
  go_wp2_with fail
  go_ret3
  exact ⟨rfl, G.out⟩
theorem doci_yes (v : Value) (bs : List Nat) (n : Nat) (w : World) (h : Bs w v bs) (hn : n < 18446744073709551616) (hf : enc n <+: bs) :
    Calls Tryd.prog 39 #[v] w fun e w' => e = .returned (.tuple #[.int .i64 (uz n), .int .i64 (enc n).length, .int .i64 0]) ∧ Below w.heap.size w w' := by
  have HF : Hid (enc n <+: bs) := hf
  clear hf
  rcases Nat.mod_two_eq_zero_or_one n with h2 | h2
  · have t1 : ((n : Int) % 2 == 1) = false := by simp; omega
    have HU : Hid (uz n = (n : Int) / 2) := by show _ = _; unfold uz; rw [if_neg (by omega)]; omega
    go_enter Tryd.func39, Tryd.ntmps39
    go_wp2_with fail
    refine (docu_yes v bs n _ h hn HF.out).mono ?_
    rintro e w1 ⟨rfl, hb⟩
    have G := (show Hid _ from hb)
    clear hb
    go_wp2_with fail
    go_ret3
    exact ⟨by rw [HU.out]; rfl, G.out⟩
  · have t1 : ((n : Int) % 2 == 1) = true := by simp; omega
    have HU : Hid (uz n = -((n : Int) / 2) - 1) := by show _ = _; unfold uz; rw [if_pos (by omega)]; omega
    go_enter Tryd.func39, Tryd.ntmps39
    go_wp2_with fail
    refine (docu_yes v bs n _ h hn HF.out).mono ?_
    rintro e w1 ⟨rfl, hb⟩
    have G := (show Hid _ from hb)
    clear hb
    go_wp2_with fail
    go_ret3
    exact ⟨by rw [HU.out]; rfl, G.out⟩
end Go.Proofs.YtcognhhbpapibaaDoor
