/- The document's long numbers: the contracts of Left, Quo, Ten. -/
import Derived.Test.YtegooagmlapngaaUf
namespace Go.Proofs.Ytegooagmlapngaa
open Go.RowKit
set_option linter.unusedVariables false

theorem left_step (ds cs : List Nat) (k q Q R T : Nat) (hk : k < ds.length) (hl : cs.length = Q + k) (hT : T = ds.getD k 0 * 2 ^ R + q) (h : val cs + pw (Q + k) * q = pw Q * (2 ^ R * val (ds.take k))) :
    val (cs ++ [T % 4294967296]) + pw (Q + (k + 1)) * (T / 4294967296) = pw Q * (2 ^ R * val (ds.take (k + 1))) := by
  have e := Nat.div_add_mod T 4294967296
  rw [val_snoc, hl, val_take_succ ds k hk, show Q + (k + 1) = Q + k + 1 by omega, pw_succ]
  have hp2 : pw (Q + k) * T = pw (Q + k) * (T % 4294967296) + 4294967296 * pw (Q + k) * (T / 4294967296) := by
    conv => lhs; rw [← e]
    rw [Nat.mul_add, Nat.mul_comm 4294967296 (pw (Q + k)), Nat.mul_assoc]; omega
  have hp : pw (Q + k) * T = pw (Q + k) * (ds.getD k 0 * 2 ^ R) + pw (Q + k) * q := by rw [hT, Nat.mul_add]
  have hp3 : pw Q * (2 ^ R * (val (ds.take k) + pw k * ds.getD k 0)) = pw Q * (2 ^ R * val (ds.take k)) + pw (Q + k) * (ds.getD k 0 * 2 ^ R) := by
    rw [Nat.mul_add, Nat.mul_add, pw_add, Nat.mul_assoc, Nat.mul_left_comm (2 ^ R) (pw k), Nat.mul_comm (2 ^ R) (ds.getD k 0)]
  omega
theorem left_bd {x q R : Nat} (hx : x < 4294967296) (hq : q < 4294967296) (hR : R < 32) : x * 2 ^ R + q < 18446744073709551616 ∧ (q < 2 ^ R → (x * 2 ^ R + q) / 4294967296 < 2 ^ R) := by
  have h2 : (2 : Nat) ^ R ≤ 2147483648 := by
    have := Nat.pow_le_pow_right (show 0 < 2 by decide) (show R ≤ 31 by omega)
    simpa using this
  have h1 : x * 2 ^ R ≤ 4294967295 * 2 ^ R := Nat.mul_le_mul_right _ (by omega)
  constructor
  · omega
  · intro h; omega
theorem pow_lt {R : Nat} (hR : R < 32) : (2 : Nat) ^ R ≤ 2147483648 := by
  have := Nat.pow_le_pow_right (show 0 < 2 by decide) (show R ≤ 31 by omega)
  simpa using this
theorem left_word (ds : List Nat) (k q N : Nat) (hd : Sm ds) (hq : q < 2 ^ (N % 32)) : ∃ T : Nat, T = ds.getD k 0 * 2 ^ (N % 32) + q ∧ T ≤ 18446744073709551615 ∧ T / 4294967296 < 2 ^ (N % 32) ∧
    IntKind.u64.wrap (IntKind.u64.wrap (dg ds k * 2 ^ (N % 32)) + (q : Int)) = (T : Int) := by
  have hR : N % 32 < 32 := Nat.mod_lt _ (by decide)
  have hp := pow_lt hR
  have hs := sm_getD k hd
  obtain ⟨h1, h2⟩ := left_bd (q := q) hs (by omega) hR
  refine ⟨_, rfl, by omega, h2 hq, ?_⟩
  have e : dg ds k * 2 ^ (N % 32) = ((ds.getD k 0 * 2 ^ (N % 32) : Nat) : Int) := by unfold dg; rw [Int.natCast_mul, Int.natCast_pow]; rfl
  rw [e, IntKind.wrap_u64, IntKind.wrap_u64]
  generalize ds.getD k 0 * 2 ^ (N % 32) = X at *
  omega
set_option maxRecDepth 100000 in
set_option maxHeartbeats 1000000 in
theorem left_rows (v : Value) (ds : List Nat) (N : Nat) (w : World) (h : Row w v ds) (hd : Sm ds) (h100 : ds.length ≤ 100) (hN : N ≤ 1500) :
    Calls Try.prog 34 #[v, .int .i64 N] w fun e w' => (∃ r, e = .returned r ∧ Nm w' r (val ds * 2 ^ N)) ∧ Below w.heap.size w w' := by
  obtain ⟨hm, a, c, rfl, hlc, hx⟩ := h
  have HX := (show Hid _ from hx)
  have HD : Hid (Sm ds) := hd
  clear hx hd
  obtain ⟨n, hn⟩ : ∃ n, n = ds.length := ⟨_, rfl⟩
  have HN : Hid (n = ds.length) := hn
  rw [← hn] at hm hlc h100
  rw [← hn]
  clear hn
  go_enter Try.func34, Try.ntmps34
  go_wp2_with (at_make; refine mk1 rfl _ _ rfl (N / 32) _ _ (by rfl) (by rfl) (by omega) (by omega) (by omega) ?_; intro w1 hown hbel)
  obtain ⟨B, hB⟩ : ∃ B, B = w.heap.size := ⟨_, rfl⟩
  rw [← hB] at hown hbel
  rw [← hB]
  have HB : Hid (B = w.heap.size) := hB
  have hown' := (show Hid _ from hown)
  have hsz0 : B ≤ w.heap.size := by omega
  clear hB hown
  obtain ⟨R, hR⟩ : ∃ R, R = N % 32 := ⟨_, rfl⟩
  have HR : Hid (R = N % 32) := hR
  have hR2 : R < 32 := by omega
  clear hR
  go_loopw [5, 6, 14] (fun r s i wr => ∃ k q : Nat, k ≤ n ∧ i = .int .i64 k ∧ s = .int .u64 q ∧ Hid (q < 2 ^ R) ∧ Below B w wr ∧ Hid (∃ cs, Owns wr B r cs ∧ cs.length = N / 32 + k ∧ Sm cs ∧ val cs + pw (N / 32 + k) * q = pw (N / 32) * (2 ^ R * val (ds.take k)))) (fun _ _ i _ => n - (intOf i).toNat)
  case atStart => exact ⟨0, 0, by omega, rfl, rfl, Nat.pow_pos (by decide), hbel, _, hown'.out, by simp, sm_replicate _, by simp [val, val_replicate]⟩
  case round =>
    clear hown' hbel
    obtain ⟨k, q, hk, rfl, rfl, hq, hbel, hcs⟩ := hrel
    have hsz : B ≤ wr.heap.size := Nat.le_trans hsz0 hbel.size
    obtain ⟨cs, hown, hlen, hsm, hval⟩ := hcs.out
    have H1 := (show Hid _ from hlen)
    have H2 : Hid (Sm cs) := hsm
    have H3 := (show Hid _ from hval)
    have H4 : Hid (Owns _ _ _ cs) := hown
    have hqb : q ≤ 2147483648 := by have := hq.out; have := pow_lt hR2; omega
    clear hcs hsm hval hlen hown
    by_cases hkn : k < n
    · obtain ⟨b, off, rfl, ⟨hb, _⟩, hc⟩ := HX.out (by have := HN.out; omega)
      have hcell := (hbel.cell (p := ⟨b, off + k, none⟩) (by rw [HB.out]; exact hb)).trans (hc k (by have := HN.out; omega))
      have b1 := dg_bd HD.out k
      clear hc HX
      obtain ⟨T, hT, hT2, hT3, hw⟩ := left_word ds k q N HD.out (by rw [← HR.out]; exact hq.out)
      have HT : Hid (T = ds.getD k 0 * 2 ^ R + q) := by rw [HR.out]; exact hT
      have HT3 : Hid (T / 4294967296 < 2 ^ R) := by rw [HR.out]; exact hT3
      clear hT hT3 hq
      go_wp2_with (at_builtin; refine app1 rfl _ _ rfl B cs _ ((T : Int) % 4294967296) (by rfl) (by rfl) (by omega) H4.out hsz (by have := H1.out; omega) ?_; intro v' w1 hown' hbel')
      have e1 : ((T : Int) % 4294967296).toNat = T % 4294967296 := by omega
      rw [e1] at hown'
      have HF : Hid (∃ cs, Owns w1 B v' cs ∧ cs.length = N / 32 + (k + 1) ∧ Sm cs ∧ val cs + pw (N / 32 + (k + 1)) * (T / 4294967296) = pw (N / 32) * (2 ^ R * val (ds.take (k + 1)))) :=
        ⟨_, hown', by rw [List.length_append, H1.out]; rfl, sm_snoc H2.out (Nat.mod_lt _ (by decide)), left_step ds cs k q (N / 32) R T (by have := HN.out; omega) H1.out HT.out H3.out⟩
      have hbel1 : Below B w w1 := hbel.trans hbel'
      have E2 : Hid ((T : Int) / 4294967296 = ((T / 4294967296 : Nat) : Int)) := rfl
      clear hown' e1 H4 hbel hbel' hw hcell
      go_wp2_with fail
      rw [E2.out]
      exact ⟨⟨k + 1, T / 4294967296, by omega, by go_num, rfl, HT3, hbel1, HF⟩, by simp [intOf]; omega⟩
    · obtain rfl : k = n := by omega
      go_wp2_with (at_builtin; refine app1 rfl _ _ rfl B cs _ (q : Int) (by rfl) (by rfl) (by omega) H4.out hsz (by have := H1.out; omega) ?_; intro v' w1 hown' hbel')
      rw [Int.toNat_natCast] at hown'
      have HV : Hid (val (cs ++ [q]) = val ds * 2 ^ N) := by
        have hv := H3.out
        rw [val_take_past ds k (by have := HN.out; omega)] at hv
        show val (cs ++ [q]) = val ds * 2 ^ N
        have e : N = 32 * (N / 32) + R := by have := HR.out; omega
        rw [val_snoc, H1.out, hv, pw_two, ← Nat.mul_assoc, ← Nat.pow_add, ← e, Nat.mul_comm]
      have H2' : Hid (Sm (cs ++ [q])) := sm_snoc H2.out (by omega)
      have H0 : Hid (Row w1 v' (cs ++ [q])) := hown'.row (by rw [List.length_append, H1.out]; simp; omega)
      have hbel1 : Below w.heap.size w w1 := by rw [← HB.out]; exact hbel.trans hbel'
      clear hown' H4 hbel hbel'
      refine (norm_ok _ _ _ H0.out H2'.out).mono ?_
      rintro e w2 ⟨⟨u, rfl, hn⟩, rfl⟩
      rw [HV.out] at hn
      have HR2 := (show Hid _ from hn)
      clear hn
      go_wp2_with fail
      go_ret
      exact ⟨⟨_, rfl, HR2.out⟩, hbel1⟩
theorem left_ok (v : Value) (x N : Nat) (w : World) (h : Nm w v x) (hx : Md x) (hN : N ≤ 1500) :
    Calls Try.prog 34 #[v, .int .i64 N] w fun e w' => (∃ r, e = .returned r ∧ Nm w' r (x * 2 ^ N)) ∧ Below w.heap.size w w' := by
  obtain ⟨ds, r, n, rfl⟩ := h
  exact left_rows v ds N w r n.sm (by have := len_md n hx; omega) hN

theorem ten_md (k : Nat) (h : k ≤ 40) : Md (10 ^ k) := by
  have h1 : (10 : Nat) ^ k ≤ 16 ^ k := Nat.pow_le_pow_left (by decide) k
  have h2 : (16 : Nat) ^ k = 2 ^ (4 * k) := by rw [show (16 : Nat) = 2 ^ 4 from rfl, ← Nat.pow_mul]
  exact md_of (k := 4 * k + 1) (by rw [Nat.pow_succ, ← h2]; have := Nat.pow_pos (n := k) (show 0 < 16 by decide); omega) (by omega)
theorem ten_ok (N : Nat) (w : World) (hN : N ≤ 38) :
    Calls Try.prog 18 #[.int .i64 N] w fun e w' => (∃ r, e = .returned r ∧ Nm w' r (10 ^ N)) ∧ Below w.heap.size w w' := by
  go_enter Try.func18, Try.ntmps18
  go_wp2_with fail
  refine (word_ok 1 _ (by omega) (by omega)).mono ?_
  rintro e w1 ⟨⟨u, rfl, hn⟩, hb⟩
  have HN := (show Hid _ from hn)
  clear hn
  go_wp2_with fail
  go_loopw [3, 6] (fun p i wr => ∃ k : Nat, k ≤ N ∧ i = .int .i64 k ∧ Below w.heap.size w wr ∧ Hid (Nm wr p (10 ^ k))) (fun _ i _ => N - (intOf i).toNat)
  case atStart => exact ⟨0, by omega, rfl, hb, HN⟩
  case round =>
    clear hb HN
    obtain ⟨k, hk, rfl, hbel, hp⟩ := hrel
    by_cases hkn : k < N
    · go_wp2_with fail
      refine (word_ok 10 _ (by omega) (by omega)).mono ?_
      rintro e w2 ⟨⟨u2, rfl, hn2⟩, hb2⟩
      have HN2 := (show Hid _ from hn2)
      have HP := (show Hid _ from hp.out.step hb2)
      have hbel := hbel.trans (hb2.mono hbel.size)
      clear hn2 hp hb2
      go_wp2_with fail
      refine (times_ok _ _ _ _ _ HP.out HN2.out (ten_md k (by omega)) (md_of (k := 4) (by decide) (by omega))).mono ?_
      rintro e w3 ⟨⟨u3, rfl, hn3⟩, hb3⟩
      have HN3 : Hid (Nm w3 u3 (10 ^ (k + 1))) := by rw [Nat.pow_succ]; exact hn3
      have hbel := hbel.trans (hb3.mono hbel.size)
      clear hn3 hb3 HP HN2
      go_wp2_with fail
      exact ⟨⟨k + 1, by omega, by go_num, hbel, HN3⟩, by simp [intOf]; omega⟩
    · obtain rfl : k = N := by omega
      go_wp2_with fail
      go_ret
      exact ⟨⟨_, rfl, hp.out⟩, hbel⟩
end Go.Proofs.Ytegooagmlapngaa
