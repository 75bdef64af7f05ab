/- digits: Write, of every decimal in form. -/
import Derived.Test.YtgcmbiahakampaaJa
namespace Go.Proofs.Ytgcmbiahakampaa
open Go.RowKit
set_option linter.unusedVariables false
set_option linter.unusedSimpArgs false

theorem cb_nil : cb [] = [.int .u8 0, .int .u8 0, .int .u8 0, .int .u8 0, .int .u8 0, .int .u8 0, .int .u8 0, .int .u8 0, .int .u8 0, .int .u8 0, .int .u8 0, .int .u8 0, .int .u8 0, .int .u8 0, .int .u8 0, .int .u8 0, .int .u8 0, .int .u8 0, .int .u8 0, .int .u8 0, .int .u8 0, .int .u8 0, .int .u8 0, .int .u8 0, .int .u8 0, .int .u8 0, .int .u8 0, .int .u8 0, .int .u8 0, .int .u8 0, .int .u8 0, .int .u8 0, .int .u8 0, .int .u8 0, .int .u8 0, .int .u8 0, .int .u8 0, .int .u8 0, .int .u8 0, .int .u8 0, .int .u8 0] := rfl
theorem wrt_pos (s N k : Nat) (h : 0 < k) : 0 < (wrt s N k).length := by
  match k, h with
  | k + 1, _ => simp [wrt]
theorem sl41 (w : World) (pt p n : Nat) (h : p + n = 41) (h0 : 0 < n) : (Instr.sliceAt 46 (.pointer (some ⟨pt, 0, none⟩)) (some (.int .i64 (p : Int))) none none).run Try.prog w = .ok (.slice (some ⟨pt, p, none⟩) n n) w := by
  have ea : Try.prog.arrayLen 46 = 41 := by kernel_rfl
  have hne : ¬ 41 = p := by omega
  have hn : 41 - p = n := by omega
  have hsz : (sizeOf (Try.prog.elem 46)).run Try.prog w = .ok 1 w := by
    rw [show Try.prog.elem 46 = 5 by kernel_rfl]
    simp [go_sem]
  rw [run_sliceAt_array_l (P := Try.prog) w _ ⟨pt, 0, none⟩ (by kernel_rfl) .i64 (p : Int) (by omega) (by rw [ea]; omega), ea, hsz]
  simp [slicedAt, hne, hn, Addr.add]
  omega
theorem txt_out {w : World} {pt p n : Nat} {L : List Nat} (h : VA w pt (cb L) 46) (hn : n = L.length) (hp : p + n = 41) :
    ∀ dst, Try.prog.underlying dst = some .string → (convert 37 dst (.slice (some ⟨pt, p, none⟩) n n)).run Try.prog w = .ok (.string (strOfNums (L.map Int.ofNat))) w := by
  refine run_convert_bytes_arg w 37 5 Try.underlying37 Try.underlying5 pt p n n _ (by simp [hn]) ?_
  intro i hi
  rw [h.cell (p + i) (cb_at (by omega) i (by omega))]
  have : i < L.length := by omega
  simp [List.getD, this]
/-- as many places as Write goes through -/
structure Places (s N K : Nat) : Prop where
  lo : s < K
  hi : K ≤ 39
  done : N / 10 ^ K = 0
  more : ∀ j, j < K → j ≤ s ∨ N / 10 ^ j ≠ 0
set_option maxHeartbeats 4000000 in
set_option maxRecDepth 100000 in
theorem dwrite_pos (c ch cl : Int) (lo hi s K : Nat) (w : World) (hd : IsD c ch cl) (hc : InR c) (hs : (s : Int) ≤ 18) (h0 : 0 ≤ c) (hh : ch = hi) (hl : cl = lo) (hlo : lo < 18446744073709551616) (hhi : hi < 9223372036854775808) (hP : Places s (hi * 18446744073709551616 + lo) K) :
    Calls Try.prog 9 #[.agg #[.int .i64 ch, .int .u64 cl, .int .i64 s]] w fun e w' => e = .returned (.tuple #[.string (strOfNums ((wrt s (hi * 18446744073709551616 + lo) K).map Int.ofNat)), .int .i64 0]) ∧ Below w.heap.size w w' := by
  subst hh
  subst hl
  obtain ⟨N, hN⟩ : ∃ N, N = hi * 18446744073709551616 + lo := ⟨_, rfl⟩
  rw [← hN] at hP
  rw [← hN]
  have hzw : zw N = zc lo hi := by
    unfold zw
    rw [show N % 18446744073709551616 = lo by omega, show N / 18446744073709551616 = hi by omega]
  have hNb : N < 340282366920938463463374607431768211456 := by omega
  have HP0 : Hid (Places s N K) := hP
  have HZ : Hid (zw N = zc lo hi) := hzw
  have HN : Hid (N < 340282366920938463463374607431768211456) := hNb
  have HS : Hid ((s : Int) ≤ 18) := hs
  have hg := sign_ok c (hi : Int) (lo : Int) s
  have VD_0 := (show Hid _ from va_new w [.int .i64 (hi : Int), .int .u64 (lo : Int), .int .i64 (s : Int)] 24)
  have BB_0 := (show Hid _ from (Below.refl w.heap.size w).alloc (Nat.le_refl _) (.cells #[.int .i64 (hi : Int), .int .u64 (lo : Int), .int .i64 (s : Int)] 24))
  have hsg := fun w => sign_ok c (hi : Int) (lo : Int) s w hd hc hs
  obtain ⟨g, hgg⟩ : ∃ g, g = sgn c := ⟨_, rfl⟩
  rw [← hgg] at hsg
  have hg0 : ¬ g < 0 := by rw [hgg]; unfold sgn; repeat (first | omega | split)
  clear hgg hP hzw hNb hN hg
  go_enter Try.func9, Try.ntmps9
  go_wp2_with (refine ldA rfl 24 _ rfl w.heap.size (by rfl) [.int .i64 (hi : Int), .int .u64 (lo : Int), .int .i64 (s : Int)] _ VD_0.out _ Try.underlying24 rfl infoD ?_)
  refine (hsg _).mono ?_
  rintro e w1 ⟨rfl, b1⟩
  have VD_1 := (show Hid _ from VD_0.out.step b1)
  have BB_1 := (show Hid _ from BB_0.out.trans (b1.mono BB_0.out.size))
  clear b1 VD_0 BB_0 hsg
  have d0 := VD_1.out.cell 0 (v := .int .i64 (hi : Int)) rfl
  have d1 := VD_1.out.cell 1 (v := .int .u64 (lo : Int)) rfl
  have dl := VD_1.out.lt
  go_upto_region 9 with fail
  clear d0 d1
  have HPa : Hid (w.heap.size < w1.heap.size) := dl
  have eT : (w1.alloc (.cells ([.int .u8 0, .int .u8 0, .int .u8 0, .int .u8 0, .int .u8 0, .int .u8 0, .int .u8 0, .int .u8 0, .int .u8 0, .int .u8 0, .int .u8 0, .int .u8 0, .int .u8 0, .int .u8 0, .int .u8 0, .int .u8 0, .int .u8 0, .int .u8 0, .int .u8 0, .int .u8 0, .int .u8 0, .int .u8 0, .int .u8 0, .int .u8 0, .int .u8 0, .int .u8 0, .int .u8 0, .int .u8 0, .int .u8 0, .int .u8 0, .int .u8 0, .int .u8 0, .int .u8 0, .int .u8 0, .int .u8 0, .int .u8 0, .int .u8 0, .int .u8 0, .int .u8 0, .int .u8 0, .int .u8 0] : List Value).toArray 46)).heap.size = w1.heap.size + 1 := by simp
  change Code.wp _ _ _ _ ((w1.alloc (.cells ([.int .u8 0, .int .u8 0, .int .u8 0, .int .u8 0, .int .u8 0, .int .u8 0, .int .u8 0, .int .u8 0, .int .u8 0, .int .u8 0, .int .u8 0, .int .u8 0, .int .u8 0, .int .u8 0, .int .u8 0, .int .u8 0, .int .u8 0, .int .u8 0, .int .u8 0, .int .u8 0, .int .u8 0, .int .u8 0, .int .u8 0, .int .u8 0, .int .u8 0, .int .u8 0, .int .u8 0, .int .u8 0, .int .u8 0, .int .u8 0, .int .u8 0, .int .u8 0, .int .u8 0, .int .u8 0, .int .u8 0, .int .u8 0, .int .u8 0, .int .u8 0, .int .u8 0, .int .u8 0, .int .u8 0] : List Value).toArray 46)).alloc (.cells (zc lo hi).toArray 48))
  have VT_2 := (show Hid _ from (va_new w1 [.int .u8 0, .int .u8 0, .int .u8 0, .int .u8 0, .int .u8 0, .int .u8 0, .int .u8 0, .int .u8 0, .int .u8 0, .int .u8 0, .int .u8 0, .int .u8 0, .int .u8 0, .int .u8 0, .int .u8 0, .int .u8 0, .int .u8 0, .int .u8 0, .int .u8 0, .int .u8 0, .int .u8 0, .int .u8 0, .int .u8 0, .int .u8 0, .int .u8 0, .int .u8 0, .int .u8 0, .int .u8 0, .int .u8 0, .int .u8 0, .int .u8 0, .int .u8 0, .int .u8 0, .int .u8 0, .int .u8 0, .int .u8 0, .int .u8 0, .int .u8 0, .int .u8 0, .int .u8 0, .int .u8 0] 46).alloc (.cells (zc lo hi).toArray 48))
  have VF_2 := (show Hid _ from va_new (w1.alloc (.cells ([.int .u8 0, .int .u8 0, .int .u8 0, .int .u8 0, .int .u8 0, .int .u8 0, .int .u8 0, .int .u8 0, .int .u8 0, .int .u8 0, .int .u8 0, .int .u8 0, .int .u8 0, .int .u8 0, .int .u8 0, .int .u8 0, .int .u8 0, .int .u8 0, .int .u8 0, .int .u8 0, .int .u8 0, .int .u8 0, .int .u8 0, .int .u8 0, .int .u8 0, .int .u8 0, .int .u8 0, .int .u8 0, .int .u8 0, .int .u8 0, .int .u8 0, .int .u8 0, .int .u8 0, .int .u8 0, .int .u8 0, .int .u8 0, .int .u8 0, .int .u8 0, .int .u8 0, .int .u8 0, .int .u8 0] : List Value).toArray 46)) (zc lo hi) 48)
  rw [eT] at VF_2
  have VD_2 := (show Hid _ from (VD_1.out.alloc (.cells ([.int .u8 0, .int .u8 0, .int .u8 0, .int .u8 0, .int .u8 0, .int .u8 0, .int .u8 0, .int .u8 0, .int .u8 0, .int .u8 0, .int .u8 0, .int .u8 0, .int .u8 0, .int .u8 0, .int .u8 0, .int .u8 0, .int .u8 0, .int .u8 0, .int .u8 0, .int .u8 0, .int .u8 0, .int .u8 0, .int .u8 0, .int .u8 0, .int .u8 0, .int .u8 0, .int .u8 0, .int .u8 0, .int .u8 0, .int .u8 0, .int .u8 0, .int .u8 0, .int .u8 0, .int .u8 0, .int .u8 0, .int .u8 0, .int .u8 0, .int .u8 0, .int .u8 0, .int .u8 0, .int .u8 0] : List Value).toArray 46)).alloc (.cells (zc lo hi).toArray 48))
  have BX := BB_1.out.alloc BB_1.out.size (.cells ([.int .u8 0, .int .u8 0, .int .u8 0, .int .u8 0, .int .u8 0, .int .u8 0, .int .u8 0, .int .u8 0, .int .u8 0, .int .u8 0, .int .u8 0, .int .u8 0, .int .u8 0, .int .u8 0, .int .u8 0, .int .u8 0, .int .u8 0, .int .u8 0, .int .u8 0, .int .u8 0, .int .u8 0, .int .u8 0, .int .u8 0, .int .u8 0, .int .u8 0, .int .u8 0, .int .u8 0, .int .u8 0, .int .u8 0, .int .u8 0, .int .u8 0, .int .u8 0, .int .u8 0, .int .u8 0, .int .u8 0, .int .u8 0, .int .u8 0, .int .u8 0, .int .u8 0, .int .u8 0, .int .u8 0] : List Value).toArray 46)
  have BB_2 := (show Hid _ from BX.alloc BX.size (.cells (zc lo hi).toArray 48))
  obtain ⟨pt, hpt⟩ : ∃ pt, pt = w1.heap.size := ⟨_, rfl⟩
  obtain ⟨pf, hpf⟩ : ∃ pf, pf = w1.heap.size + 1 := ⟨_, rfl⟩
  rw [← hpt] at VT_2
  rw [← hpf] at VF_2
  rw [← hpf, ← hpt]
  have HP : Hid (w.heap.size < pt ∧ pf = pt + 1) := ⟨by rw [hpt]; exact HPa.out, by rw [hpt, hpf]⟩
  clear hpt hpf eT BX VD_1 BB_1 HPa dl
  generalize (w1.alloc (.cells ([.int .u8 0, .int .u8 0, .int .u8 0, .int .u8 0, .int .u8 0, .int .u8 0, .int .u8 0, .int .u8 0, .int .u8 0, .int .u8 0, .int .u8 0, .int .u8 0, .int .u8 0, .int .u8 0, .int .u8 0, .int .u8 0, .int .u8 0, .int .u8 0, .int .u8 0, .int .u8 0, .int .u8 0, .int .u8 0, .int .u8 0, .int .u8 0, .int .u8 0, .int .u8 0, .int .u8 0, .int .u8 0, .int .u8 0, .int .u8 0, .int .u8 0, .int .u8 0, .int .u8 0, .int .u8 0, .int .u8 0, .int .u8 0, .int .u8 0, .int .u8 0, .int .u8 0, .int .u8 0, .int .u8 0] : List Value).toArray 46)).alloc (.cells (zc lo hi).toArray 48) = w2 at *
  rw [← cb_nil] at VT_2
  rw [← HZ.out] at VF_2
  obtain ⟨dp, hdp⟩ : ∃ dp, dp = w.heap.size := ⟨_, rfl⟩
  have HQ : Hid (dp = w.heap.size) := hdp
  rw [← hdp] at VD_2
  simp only [← hdp]
  clear hdp
  go_wp2_with fail
  go_loopw [7, 9] (fun a pl wr => ∃ k p : Nat, k ≤ K ∧ p ≤ 41 ∧ pl = .int .i64 k ∧ a = .int .i64 p ∧ Hid (p + (wrt s N k).length = 41) ∧ Hid (VA wr pt (cb (wrt s N k)) 46) ∧ Hid (VA wr pf (zw (N / 10 ^ k)) 48) ∧ Hid (VA wr dp [.int .i64 (hi : Int), .int .u64 (lo : Int), .int .i64 (s : Int)] 24) ∧ Hid (Below w.heap.size w wr)) (fun _ pl _ => K - (intOf pl).toNat)
  case atStart => exact ⟨0, 41, by omega, by omega, rfl, rfl, rfl, VT_2, by rw [Nat.pow_zero, Nat.div_one]; exact VF_2, VD_2, BB_2⟩
  case round =>
    clear VT_2 VF_2 VD_2 BB_2
    obtain ⟨k, p, hk, hp41, rfl, rfl, HL, HT, HF, HD, HB⟩ := hrel
    have HLe := HL.out
    have hmx := wrt_le s N k
    by_cases hkK : k = K
    · subst hkK
      have gks : ¬ (k : Int) ≤ s := by have := HP0.out.lo; omega
      rw [HP0.out.done] at HF
      have d2 := HD.out.cell 2 (v := .int .i64 (s : Int)) rfl
      have z0 := HF.out.cell 0 (v := .int .u64 0) rfl
      have z1 := HF.out.cell 1 (v := .int .u64 0) rfl
      have E1 : ∀ w, (Op.equalIn 10000 48 (.agg #[.int .u64 0, .int .u64 0]) (.agg #[.int .u64 0, .int .u64 0])).run Try.prog w = .ok true w := fun w => by rw [eq_size]; rfl
      clear HLe hmx
      go_upto_region 22 with fail
      clear d2 z0 z1 E1
      obtain ⟨n, hn⟩ : ∃ n, n = (wrt s N k).length := ⟨_, rfl⟩
      have hn0 : 0 < n := by rw [hn]; exact wrt_pos s N k (by have := HP0.out.lo; omega)
      have hpn : p + n = 41 := by rw [hn]; exact HL.out
      have hsl := sl41 wr pt p n hpn hn0
      have hconv := txt_out HT.out hn hpn 9 Try.underlying9
      have HR : Hid (Below w.heap.size w wr) := HB
      clear hn hn0 hpn
      go_wp2_with fail
      exact bodyPost_ret (v := .tuple #[.string (strOfNums ((wrt s N k).map Int.ofNat)), .int .i64 0]) (by simp [results, Try.results9, go_sem]) rfl ⟨rfl, HR.out⟩
    have hkl : k < K := by omega
    have hK39 := HP0.out.hi
    obtain ⟨M, hM⟩ : ∃ M, M = N / 10 ^ k := ⟨_, rfl⟩
    rw [← hM] at HF
    have HMb : M < 340282366920938463463374607431768211456 := by rw [hM]; exact Nat.lt_of_le_of_lt (Nat.div_le_self _ _) HN.out
    have hT := fun w => tenth_w M w HMb
    obtain ⟨m0, hm0⟩ : ∃ x, x = M % 18446744073709551616 := ⟨_, rfl⟩
    obtain ⟨m1, hm1⟩ : ∃ x, x = M / 18446744073709551616 := ⟨_, rfl⟩
    obtain ⟨n0, hn0⟩ : ∃ x, x = M / 10 % 18446744073709551616 := ⟨_, rfl⟩
    obtain ⟨n1, hn1⟩ : ∃ x, x = M / 10 / 18446744073709551616 := ⟨_, rfl⟩
    obtain ⟨q, hq⟩ : ∃ x, x = M % 10 := ⟨_, rfl⟩
    have hq9 : q ≤ 9 := by omega
    unfold zw at hT HF
    rw [← hm0, ← hm1, ← hn0, ← hn1, ← hq] at hT
    rw [← hm0, ← hm1] at HF
    have HMe : Hid (M = N / 10 ^ k ∧ q = M % 10 ∧ n0 = M / 10 % 18446744073709551616 ∧ n1 = M / 10 / 18446744073709551616) := ⟨hM, hq, hn0, hn1⟩
    have HM0 : Hid (m0 = M % 18446744073709551616 ∧ m1 = M / 18446744073709551616 ∧ (s < k → M ≠ 0)) := ⟨hm0, hm1, fun h h0 => (HP0.out.more k hkl).elim (fun h1 => by omega) (fun h1 => h1 (by rw [← hM]; exact h0))⟩
    have HKL : Hid (k < K ∧ K ≤ 39) := ⟨hkl, hK39⟩
    obtain ⟨p1, hp1⟩ : ∃ x, x + 1 = p := ⟨p - 1, by omega⟩
    have e1 : (p : Int) - 1 = p1 := by omega
    have p1b : p1 ≤ 40 := by omega
    have HL1 : Hid (p1 + 1 + (wrt s N k).length = 41) := (by omega : p1 + 1 + (wrt s N k).length = 41)
    have bk : (k : Int) ≤ 39 := by omega
    have bp : 1 ≤ (p : Int) := by omega
    have HKs : Hid (k ≤ s → (wrt s N k).length = k) := wrt_lo s N k
    clear HMb hm0 hm1 hn0 hn1 hq hM hkK hmx hkl hK39 hp1 HLe
    by_cases hks : k ≤ s
    · have gks : (k : Int) ≤ s := by omega
      by_cases hdot : k = s
      · by_cases hz : 0 < k
        · have gd : ((k : Int) == (s : Int)) = true := by simp; omega
          have gd0 : 0 < (k : Int) := by omega
          have HDOT : Hid (k = s ∧ 0 < k) := ⟨hdot, hz⟩
          obtain ⟨p0, hp0⟩ : ∃ x, x + 1 = p1 := ⟨p1 - 1, by have := HL1.out; have := HKs.out hks; have := HS.out; omega⟩
          have e2 : (p1 : Int) - 1 = p0 := by omega
          have p0b : p0 ≤ 39 := by omega
          have bp1 : 1 ≤ (p1 : Int) := by omega
          have HL0 : Hid (p0 + 1 + (46 :: wrt s N k).length = 41) := by have := HL1.out; show p0 + 1 + (46 :: wrt s N k).length = 41; simp; omega
          clear hdot hz hp0 hks
          have d2 := HD.out.cell 2 (v := .int .i64 (s : Int)) rfl
          have z0 := HF.out.cell 0 (v := .int .u64 (m0 : Int)) rfl
          have z1 := HF.out.cell 1 (v := .int .u64 (m1 : Int)) rfl
          go_upto_region 13 with fail
          clear d2 z0 z1
          have t0 := HT.out.cell p1 (v := .int .u8 0) (cb_zero HL1.out)
          have t1 := HT.out.free p1
          go_upto_region 15 with fail
          clear t0 t1
          have HTa : Hid (VA (wr.setCell ⟨pt, p1, none⟩ (.int .u8 46)) pt (cb (46 :: wrt s N k)) 46) := by
            have := HT.out.set p1 (.int .u8 46)
            rw [show (Value.int .u8 46) = .int .u8 ((46 : Nat) : Int) from rfl, cb_set HL1.out] at this
            exact this
          have HFa := (show Hid _ from HF.out.set_other (q := pt) (by have := HP.out; omega) p1 (.int .u8 46))
          have HDa := (show Hid _ from HD.out.set_other (q := pt) (by have := HP.out; have := HQ.out; omega) p1 (.int .u8 46))
          have HBa := (show Hid _ from HB.out.setCell (p := ⟨pt, p1, none⟩) (by have := HP.out; show _ ≤ pt; omega) (.int .u8 46))
          clear HT HF HD HB
          generalize wr.setCell ⟨pt, p1, none⟩ (.int .u8 46) = wa at *
          have z0 := HFa.out.cell 0 (v := .int .u64 (m0 : Int)) rfl
          have z1 := HFa.out.cell 1 (v := .int .u64 (m1 : Int)) rfl
          go_wp2_with fail
          clear z0 z1
          refine (hT _).mono ?_
          rintro e wb ⟨rfl, b3⟩
          have HTb := (show Hid _ from HTa.out.step b3)
          have HFb := (show Hid _ from HFa.out.step b3)
          have HDb := (show Hid _ from HDa.out.step b3)
          have HBb := (show Hid _ from HBa.out.trans (b3.mono HBa.out.size))
          clear b3 HTa HFa HDa HBa
          go_upto_region 17 with (refine stA rfl 48 _ _ rfl pf (by rfl) (zc m0 m1) (zc n0 n1) (by rfl) 48 HFb.out infoZ rfl (zc_one _ _) ?_; intro wc v u; have HFc := (show Hid _ from v); have HTc := (show Hid _ from HTb.out.upd u (by have := HP.out; omega)); have HDc := (show Hid _ from HDb.out.upd u (by have := HP.out; have := HQ.out; omega)); have HBc := (show Hid _ from u.bel HBb.out (by have := HP.out; omega)); clear v u HFb HTb HDb HBb)
          have t0 := HTc.out.cell p0 (v := .int .u8 0) (cb_zero HL0.out)
          have t1 := HTc.out.free p0
          go_wp2_with fail
          clear t0 t1
          have eL : wrt s N (k + 1) = (48 + q) :: (46 :: wrt s N k) := by
            obtain ⟨h1, h2, _, _⟩ := HMe.out
            rw [wrt, if_pos HDOT.out, ← h1, ← h2]
          have eM : zw (N / 10 ^ (k + 1)) = zc n0 n1 := by
            obtain ⟨h1, _, h3, h4⟩ := HMe.out
            unfold zw
            rw [Nat.pow_succ, ← Nat.div_div_eq_div_mul, ← h1, h3, h4]
          have eq1 : (48 + (q : Int)) = ((48 + q : Nat) : Int) := by omega
          have hHP := HP.out
          have hHQ := HQ.out
          have hKL := HKL.out
          have hLx := HL0.out
          refine ⟨⟨k + 1, p0, by omega, by omega, by simp, rfl, ?_, ?_, ?_, ?_, ?_⟩, by simp [intOf]; omega⟩
          · have : p0 + (wrt s N (k + 1)).length = 41 := by rw [eL]; simp at hLx ⊢; omega
            exact this
          · have := HTc.out.set p0 (.int .u8 (48 + (q : Int)))
            rw [eq1, cb_set hLx, ← eq1, ← eL] at this
            exact this
          · have := HFc.out.set_other (q := pt) (by omega) p0 (.int .u8 (48 + (q : Int)))
            rw [← eM] at this
            exact this
          · exact HDc.out.set_other (q := pt) (by omega) p0 (.int .u8 (48 + (q : Int)))
          · exact HBc.out.setCell (p := ⟨pt, p0, none⟩) (by show _ ≤ pt; omega) (.int .u8 (48 + (q : Int)))
        · have gd : ((k : Int) == (s : Int)) = true := by simp; omega
          have gd0 : ¬ 0 < (k : Int) := by omega
          have HDOT : Hid (¬ (k = s ∧ 0 < k)) := fun h => hz h.2
          clear hdot hz hks
          have d2 := HD.out.cell 2 (v := .int .i64 (s : Int)) rfl
          have z0 := HF.out.cell 0 (v := .int .u64 (m0 : Int)) rfl
          have z1 := HF.out.cell 1 (v := .int .u64 (m1 : Int)) rfl
          go_upto_region 15 with fail
          clear d2 z0 z1
          have z0 := HF.out.cell 0 (v := .int .u64 (m0 : Int)) rfl
          have z1 := HF.out.cell 1 (v := .int .u64 (m1 : Int)) rfl
          go_wp2_with fail
          clear z0 z1
          refine (hT _).mono ?_
          rintro e wb ⟨rfl, b3⟩
          have HTb := (show Hid _ from HT.out.step b3)
          have HFb := (show Hid _ from HF.out.step b3)
          have HDb := (show Hid _ from HD.out.step b3)
          have HBb := (show Hid _ from HB.out.trans (b3.mono HB.out.size))
          clear b3 HT HF HD HB
          go_upto_region 17 with (refine stA rfl 48 _ _ rfl pf (by rfl) (zc m0 m1) (zc n0 n1) (by rfl) 48 HFb.out infoZ rfl (zc_one _ _) ?_; intro wc v u; have HFc := (show Hid _ from v); have HTc := (show Hid _ from HTb.out.upd u (by have := HP.out; omega)); have HDc := (show Hid _ from HDb.out.upd u (by have := HP.out; have := HQ.out; omega)); have HBc := (show Hid _ from u.bel HBb.out (by have := HP.out; omega)); clear v u HFb HTb HDb HBb)
          have t0 := HTc.out.cell p1 (v := .int .u8 0) (cb_zero HL1.out)
          have t1 := HTc.out.free p1
          go_wp2_with fail
          clear t0 t1
          have eL : wrt s N (k + 1) = (48 + q) :: (wrt s N k) := by
            obtain ⟨h1, h2, _, _⟩ := HMe.out
            rw [wrt, if_neg HDOT.out, ← h1, ← h2]
          have eM : zw (N / 10 ^ (k + 1)) = zc n0 n1 := by
            obtain ⟨h1, _, h3, h4⟩ := HMe.out
            unfold zw
            rw [Nat.pow_succ, ← Nat.div_div_eq_div_mul, ← h1, h3, h4]
          have eq1 : (48 + (q : Int)) = ((48 + q : Nat) : Int) := by omega
          have hHP := HP.out
          have hHQ := HQ.out
          have hKL := HKL.out
          have hLx := HL1.out
          refine ⟨⟨k + 1, p1, by omega, by omega, by simp, rfl, ?_, ?_, ?_, ?_, ?_⟩, by simp [intOf]; omega⟩
          · have : p1 + (wrt s N (k + 1)).length = 41 := by rw [eL]; simp at hLx ⊢; omega
            exact this
          · have := HTc.out.set p1 (.int .u8 (48 + (q : Int)))
            rw [eq1, cb_set hLx, ← eq1, ← eL] at this
            exact this
          · have := HFc.out.set_other (q := pt) (by omega) p1 (.int .u8 (48 + (q : Int)))
            rw [← eM] at this
            exact this
          · exact HDc.out.set_other (q := pt) (by omega) p1 (.int .u8 (48 + (q : Int)))
          · exact HBc.out.setCell (p := ⟨pt, p1, none⟩) (by show _ ≤ pt; omega) (.int .u8 (48 + (q : Int)))
      · have HDOT : Hid (¬ (k = s ∧ 0 < k)) := fun h => hdot h.1
        have gd : ((k : Int) == (s : Int)) = false := by simp; omega
        clear hdot hks
        have d2 := HD.out.cell 2 (v := .int .i64 (s : Int)) rfl
        have z0 := HF.out.cell 0 (v := .int .u64 (m0 : Int)) rfl
        have z1 := HF.out.cell 1 (v := .int .u64 (m1 : Int)) rfl
        go_upto_region 15 with fail
        clear d2 z0 z1
        have z0 := HF.out.cell 0 (v := .int .u64 (m0 : Int)) rfl
        have z1 := HF.out.cell 1 (v := .int .u64 (m1 : Int)) rfl
        go_wp2_with fail
        clear z0 z1
        refine (hT _).mono ?_
        rintro e wb ⟨rfl, b3⟩
        have HTb := (show Hid _ from HT.out.step b3)
        have HFb := (show Hid _ from HF.out.step b3)
        have HDb := (show Hid _ from HD.out.step b3)
        have HBb := (show Hid _ from HB.out.trans (b3.mono HB.out.size))
        clear b3 HT HF HD HB
        go_upto_region 17 with (refine stA rfl 48 _ _ rfl pf (by rfl) (zc m0 m1) (zc n0 n1) (by rfl) 48 HFb.out infoZ rfl (zc_one _ _) ?_; intro wc v u; have HFc := (show Hid _ from v); have HTc := (show Hid _ from HTb.out.upd u (by have := HP.out; omega)); have HDc := (show Hid _ from HDb.out.upd u (by have := HP.out; have := HQ.out; omega)); have HBc := (show Hid _ from u.bel HBb.out (by have := HP.out; omega)); clear v u HFb HTb HDb HBb)
        have t0 := HTc.out.cell p1 (v := .int .u8 0) (cb_zero HL1.out)
        have t1 := HTc.out.free p1
        go_wp2_with fail
        clear t0 t1
        have eL : wrt s N (k + 1) = (48 + q) :: (wrt s N k) := by
          obtain ⟨h1, h2, _, _⟩ := HMe.out
          rw [wrt, if_neg HDOT.out, ← h1, ← h2]
        have eM : zw (N / 10 ^ (k + 1)) = zc n0 n1 := by
          obtain ⟨h1, _, h3, h4⟩ := HMe.out
          unfold zw
          rw [Nat.pow_succ, ← Nat.div_div_eq_div_mul, ← h1, h3, h4]
        have eq1 : (48 + (q : Int)) = ((48 + q : Nat) : Int) := by omega
        have hHP := HP.out
        have hHQ := HQ.out
        have hKL := HKL.out
        have hLx := HL1.out
        refine ⟨⟨k + 1, p1, by omega, by omega, by simp, rfl, ?_, ?_, ?_, ?_, ?_⟩, by simp [intOf]; omega⟩
        · have : p1 + (wrt s N (k + 1)).length = 41 := by rw [eL]; simp at hLx ⊢; omega
          exact this
        · have := HTc.out.set p1 (.int .u8 (48 + (q : Int)))
          rw [eq1, cb_set hLx, ← eq1, ← eL] at this
          exact this
        · have := HFc.out.set_other (q := pt) (by omega) p1 (.int .u8 (48 + (q : Int)))
          rw [← eM] at this
          exact this
        · exact HDc.out.set_other (q := pt) (by omega) p1 (.int .u8 (48 + (q : Int)))
        · exact HBc.out.setCell (p := ⟨pt, p1, none⟩) (by show _ ≤ pt; omega) (.int .u8 (48 + (q : Int)))
    · have gks : ¬ (k : Int) ≤ s := by omega
      have HDOT : Hid (¬ (k = s ∧ 0 < k)) := fun h => hks (by omega)
      have gd : ((k : Int) == (s : Int)) = false := by simp; omega
      have HM1 : Hid (s < k) := (by omega : s < k)
      clear hks
      have d2 := HD.out.cell 2 (v := .int .i64 (s : Int)) rfl
      have z0 := HF.out.cell 0 (v := .int .u64 (m0 : Int)) rfl
      have z1 := HF.out.cell 1 (v := .int .u64 (m1 : Int)) rfl
      have E1 : ∀ w, (Op.equalIn 10000 48 (.agg #[.int .u64 (m0 : Int), .int .u64 (m1 : Int)]) (.agg #[.int .u64 0, .int .u64 0])).run Try.prog w = .ok false w := fun w => by
        rw [eq_size]
        have := HM0.out
        have := this.2.2 HM1.out
        congr 1
        simp
        omega
      go_upto_region 15 with fail
      clear d2 z0 z1 E1
      have z0 := HF.out.cell 0 (v := .int .u64 (m0 : Int)) rfl
      have z1 := HF.out.cell 1 (v := .int .u64 (m1 : Int)) rfl
      go_wp2_with fail
      clear z0 z1
      refine (hT _).mono ?_
      rintro e wb ⟨rfl, b3⟩
      have HTb := (show Hid _ from HT.out.step b3)
      have HFb := (show Hid _ from HF.out.step b3)
      have HDb := (show Hid _ from HD.out.step b3)
      have HBb := (show Hid _ from HB.out.trans (b3.mono HB.out.size))
      clear b3 HT HF HD HB
      go_upto_region 17 with (refine stA rfl 48 _ _ rfl pf (by rfl) (zc m0 m1) (zc n0 n1) (by rfl) 48 HFb.out infoZ rfl (zc_one _ _) ?_; intro wc v u; have HFc := (show Hid _ from v); have HTc := (show Hid _ from HTb.out.upd u (by have := HP.out; omega)); have HDc := (show Hid _ from HDb.out.upd u (by have := HP.out; have := HQ.out; omega)); have HBc := (show Hid _ from u.bel HBb.out (by have := HP.out; omega)); clear v u HFb HTb HDb HBb)
      have t0 := HTc.out.cell p1 (v := .int .u8 0) (cb_zero HL1.out)
      have t1 := HTc.out.free p1
      go_wp2_with fail
      clear t0 t1
      have eL : wrt s N (k + 1) = (48 + q) :: (wrt s N k) := by
        obtain ⟨h1, h2, _, _⟩ := HMe.out
        rw [wrt, if_neg HDOT.out, ← h1, ← h2]
      have eM : zw (N / 10 ^ (k + 1)) = zc n0 n1 := by
        obtain ⟨h1, _, h3, h4⟩ := HMe.out
        unfold zw
        rw [Nat.pow_succ, ← Nat.div_div_eq_div_mul, ← h1, h3, h4]
      have eq1 : (48 + (q : Int)) = ((48 + q : Nat) : Int) := by omega
      have hHP := HP.out
      have hHQ := HQ.out
      have hKL := HKL.out
      have hLx := HL1.out
      refine ⟨⟨k + 1, p1, by omega, by omega, by simp, rfl, ?_, ?_, ?_, ?_, ?_⟩, by simp [intOf]; omega⟩
      · have : p1 + (wrt s N (k + 1)).length = 41 := by rw [eL]; simp at hLx ⊢; omega
        exact this
      · have := HTc.out.set p1 (.int .u8 (48 + (q : Int)))
        rw [eq1, cb_set hLx, ← eq1, ← eL] at this
        exact this
      · have := HFc.out.set_other (q := pt) (by omega) p1 (.int .u8 (48 + (q : Int)))
        rw [← eM] at this
        exact this
      · exact HDc.out.set_other (q := pt) (by omega) p1 (.int .u8 (48 + (q : Int)))
      · exact HBc.out.setCell (p := ⟨pt, p1, none⟩) (by show _ ≤ pt; omega) (.int .u8 (48 + (q : Int)))
end Go.Proofs.Ytgcmbiahakampaa
