/- digits: Write, of every decimal in form. -/
import Derived.Test.YteohncnjjgoemaaGreatDoorJa
import Derived.Test.YteohncnjjgoemaaGreatDoorM9
namespace Go.Proofs.YteohncnjjgoemaaGreatDoor.dg
open Go.RowKit
set_option linter.unusedVariables false
set_option linter.unusedSimpArgs false

theorem cb_nil : cb [] = [.int .u8 0, .int .u8 0, .int .u8 0, .int .u8 0, .int .u8 0, .int .u8 0, .int .u8 0, .int .u8 0, .int .u8 0, .int .u8 0, .int .u8 0, .int .u8 0, .int .u8 0, .int .u8 0, .int .u8 0, .int .u8 0, .int .u8 0, .int .u8 0, .int .u8 0, .int .u8 0, .int .u8 0, .int .u8 0, .int .u8 0, .int .u8 0, .int .u8 0, .int .u8 0, .int .u8 0, .int .u8 0, .int .u8 0, .int .u8 0, .int .u8 0, .int .u8 0, .int .u8 0, .int .u8 0, .int .u8 0, .int .u8 0, .int .u8 0, .int .u8 0, .int .u8 0, .int .u8 0, .int .u8 0] := rfl
theorem wrt_pos (s N k : Nat) (h : 0 < k) : 0 < (wrt s N k).length := by
  match k, h with
  | k + 1, _ => simp [wrt]
theorem sl41 (w : World) (pt p n : Nat) (h : p + n = 41) (h0 : 0 < n) : (Instr.sliceAt 75 (.pointer (some ⟨pt, 0, none⟩)) (some (.int .i64 (p : Int))) none none).run Tryz.prog w = .ok (.slice (some ⟨pt, p, none⟩) n n) w := by
  have ea : Tryz.prog.arrayLen 75 = 41 := by kernel_rfl
  have hne : ¬ 41 = p := by omega
  have hn : 41 - p = n := by omega
  have hsz : (sizeOf (Tryz.prog.elem 75)).run Tryz.prog w = .ok 1 w := by
    rw [show Tryz.prog.elem 75 = 5 by kernel_rfl]
    simp [go_sem]
  rw [run_sliceAt_array_l (P := Tryz.prog) w _ ⟨pt, 0, none⟩ (by kernel_rfl) .i64 (p : Int) (by omega) (by rw [ea]; omega), ea, hsz]
  simp [slicedAt, hne, hn, Addr.add]
  omega
theorem txt_out {w : World} {pt p n : Nat} {L : List Nat} (h : VA w pt (cb L) 75) (hn : n = L.length) (hp : p + n = 41) :
    ∀ dst, Tryz.prog.underlying dst = some .string → (convert 80 dst (.slice (some ⟨pt, p, none⟩) n n)).run Tryz.prog w = .ok (.string (strOfNums (L.map Int.ofNat))) w := by
  refine run_convert_bytes_arg w 80 5 Tryz.underlying80 Tryz.underlying5 pt p n n _ (by simp [hn]) ?_
  intro i hi
  rw [h.cell (p + i) (cb_at (by omega) i (by omega))]
  have : i < L.length := by omega
  simp [List.getD, this]
/-- as many places as Write goes through -/
structure Places (s N K : Nat) : Prop where
  lo : s < K
  hi : K ≤ 39
  done : N / 10 ^ K = 0
  more : ∀ j, j < K → j ≤ s ∨ N / 10 ^ j ≠ 0
set_option maxHeartbeats 4000000 in
set_option maxRecDepth 100000 in
theorem dwrite_pos (c ch cl : Int) (lo hi s K : Nat) (w : World) (hd : IsD c ch cl) (hc : InR c) (hs : (s : Int) ≤ 18) (h0 : 0 ≤ c) (hh : ch = hi) (hl : cl = lo) (hlo : lo < 18446744073709551616) (hhi : hi < 9223372036854775808) (hP : Places s (hi * 18446744073709551616 + lo) K) :
    Calls Tryz.prog 12 #[.agg #[.int .i64 ch, .int .u64 cl, .int .i64 s]] w fun e w' => e = .returned (.tuple #[.string (strOfNums ((wrt s (hi * 18446744073709551616 + lo) K).map Int.ofNat)), .int .i64 0]) ∧ Below w.heap.size w w' := by
  subst hh
  subst hl
  obtain ⟨N, hN⟩ : ∃ N, N = hi * 18446744073709551616 + lo := ⟨_, rfl⟩
  rw [← hN] at hP
  rw [← hN]
  have hzw : zw N = zc lo hi := by
    unfold zw
    rw [show N % 18446744073709551616 = lo by omega, show N / 18446744073709551616 = hi by omega]
  have hNb : N < 340282366920938463463374607431768211456 := by omega
  have HP0 : Hid (Places s N K) := hP
  have HZ : Hid (zw N = zc lo hi) := hzw
  have HN : Hid (N < 340282366920938463463374607431768211456) := hNb
  have HS : Hid ((s : Int) ≤ 18) := hs
  have hg := sign_ok c (hi : Int) (lo : Int) s
  have VD_0 := (show Hid _ from va_new w [.int .i64 (hi : Int), .int .u64 (lo : Int), .int .i64 (s : Int)] 41)
  have BB_0 := (show Hid _ from (Below.refl w.heap.size w).alloc (Nat.le_refl _) (.cells #[.int .i64 (hi : Int), .int .u64 (lo : Int), .int .i64 (s : Int)] 41))
  have hsg := fun w => sign_ok c (hi : Int) (lo : Int) s w hd hc hs
  obtain ⟨g, hgg⟩ : ∃ g, g = sgn c := ⟨_, rfl⟩
  rw [← hgg] at hsg
  have hg0 : ¬ g < 0 := by rw [hgg]; unfold sgn; repeat (first | omega | split)
  clear hgg hP hzw hNb hN hg
  go_enter Tryz.func12, Tryz.ntmps12
  go_wp2_with (refine ldA rfl 41 _ rfl w.heap.size (by rfl) [.int .i64 (hi : Int), .int .u64 (lo : Int), .int .i64 (s : Int)] _ VD_0.out _ Tryz.underlying41 rfl infoD ?_)
  refine (hsg _).mono ?_
  rintro e w1 ⟨rfl, b1⟩
  have VD_1 := (show Hid _ from VD_0.out.step b1)
  have BB_1 := (show Hid _ from BB_0.out.trans (b1.mono BB_0.out.size))
  clear b1 VD_0 BB_0 hsg
  have d0 := VD_1.out.cell 0 (v := .int .i64 (hi : Int)) rfl
  have d1 := VD_1.out.cell 1 (v := .int .u64 (lo : Int)) rfl
  have dl := VD_1.out.lt
  go_upto_region 9 with fail
  clear d0 d1
  have HPa : Hid (w.heap.size < w1.heap.size) := dl
  have eT : (w1.alloc (.cells ([.int .u8 0, .int .u8 0, .int .u8 0, .int .u8 0, .int .u8 0, .int .u8 0, .int .u8 0, .int .u8 0, .int .u8 0, .int .u8 0, .int .u8 0, .int .u8 0, .int .u8 0, .int .u8 0, .int .u8 0, .int .u8 0, .int .u8 0, .int .u8 0, .int .u8 0, .int .u8 0, .int .u8 0, .int .u8 0, .int .u8 0, .int .u8 0, .int .u8 0, .int .u8 0, .int .u8 0, .int .u8 0, .int .u8 0, .int .u8 0, .int .u8 0, .int .u8 0, .int .u8 0, .int .u8 0, .int .u8 0, .int .u8 0, .int .u8 0, .int .u8 0, .int .u8 0, .int .u8 0, .int .u8 0] : List Value).toArray 75)).heap.size = w1.heap.size + 1 := by simp
  change Code.wp _ _ _ _ ((w1.alloc (.cells ([.int .u8 0, .int .u8 0, .int .u8 0, .int .u8 0, .int .u8 0, .int .u8 0, .int .u8 0, .int .u8 0, .int .u8 0, .int .u8 0, .int .u8 0, .int .u8 0, .int .u8 0, .int .u8 0, .int .u8 0, .int .u8 0, .int .u8 0, .int .u8 0, .int .u8 0, .int .u8 0, .int .u8 0, .int .u8 0, .int .u8 0, .int .u8 0, .int .u8 0, .int .u8 0, .int .u8 0, .int .u8 0, .int .u8 0, .int .u8 0, .int .u8 0, .int .u8 0, .int .u8 0, .int .u8 0, .int .u8 0, .int .u8 0, .int .u8 0, .int .u8 0, .int .u8 0, .int .u8 0, .int .u8 0] : List Value).toArray 75)).alloc (.cells (zc lo hi).toArray 77))
  have VT_2 := (show Hid _ from (va_new w1 [.int .u8 0, .int .u8 0, .int .u8 0, .int .u8 0, .int .u8 0, .int .u8 0, .int .u8 0, .int .u8 0, .int .u8 0, .int .u8 0, .int .u8 0, .int .u8 0, .int .u8 0, .int .u8 0, .int .u8 0, .int .u8 0, .int .u8 0, .int .u8 0, .int .u8 0, .int .u8 0, .int .u8 0, .int .u8 0, .int .u8 0, .int .u8 0, .int .u8 0, .int .u8 0, .int .u8 0, .int .u8 0, .int .u8 0, .int .u8 0, .int .u8 0, .int .u8 0, .int .u8 0, .int .u8 0, .int .u8 0, .int .u8 0, .int .u8 0, .int .u8 0, .int .u8 0, .int .u8 0, .int .u8 0] 75).alloc (.cells (zc lo hi).toArray 77))
  have VF_2 := (show Hid _ from va_new (w1.alloc (.cells ([.int .u8 0, .int .u8 0, .int .u8 0, .int .u8 0, .int .u8 0, .int .u8 0, .int .u8 0, .int .u8 0, .int .u8 0, .int .u8 0, .int .u8 0, .int .u8 0, .int .u8 0, .int .u8 0, .int .u8 0, .int .u8 0, .int .u8 0, .int .u8 0, .int .u8 0, .int .u8 0, .int .u8 0, .int .u8 0, .int .u8 0, .int .u8 0, .int .u8 0, .int .u8 0, .int .u8 0, .int .u8 0, .int .u8 0, .int .u8 0, .int .u8 0, .int .u8 0, .int .u8 0, .int .u8 0, .int .u8 0, .int .u8 0, .int .u8 0, .int .u8 0, .int .u8 0, .int .u8 0, .int .u8 0] : List Value).toArray 75)) (zc lo hi) 77)
  rw [eT] at VF_2
  have VD_2 := (show Hid _ from (VD_1.out.alloc (.cells ([.int .u8 0, .int .u8 0, .int .u8 0, .int .u8 0, .int .u8 0, .int .u8 0, .int .u8 0, .int .u8 0, .int .u8 0, .int .u8 0, .int .u8 0, .int .u8 0, .int .u8 0, .int .u8 0, .int .u8 0, .int .u8 0, .int .u8 0, .int .u8 0, .int .u8 0, .int .u8 0, .int .u8 0, .int .u8 0, .int .u8 0, .int .u8 0, .int .u8 0, .int .u8 0, .int .u8 0, .int .u8 0, .int .u8 0, .int .u8 0, .int .u8 0, .int .u8 0, .int .u8 0, .int .u8 0, .int .u8 0, .int .u8 0, .int .u8 0, .int .u8 0, .int .u8 0, .int .u8 0, .int .u8 0] : List Value).toArray 75)).alloc (.cells (zc lo hi).toArray 77))
  have BX := BB_1.out.alloc BB_1.out.size (.cells ([.int .u8 0, .int .u8 0, .int .u8 0, .int .u8 0, .int .u8 0, .int .u8 0, .int .u8 0, .int .u8 0, .int .u8 0, .int .u8 0, .int .u8 0, .int .u8 0, .int .u8 0, .int .u8 0, .int .u8 0, .int .u8 0, .int .u8 0, .int .u8 0, .int .u8 0, .int .u8 0, .int .u8 0, .int .u8 0, .int .u8 0, .int .u8 0, .int .u8 0, .int .u8 0, .int .u8 0, .int .u8 0, .int .u8 0, .int .u8 0, .int .u8 0, .int .u8 0, .int .u8 0, .int .u8 0, .int .u8 0, .int .u8 0, .int .u8 0, .int .u8 0, .int .u8 0, .int .u8 0, .int .u8 0] : List Value).toArray 75)
  have BB_2 := (show Hid _ from BX.alloc BX.size (.cells (zc lo hi).toArray 77))
  obtain ⟨pt, hpt⟩ : ∃ pt, pt = w1.heap.size := ⟨_, rfl⟩
  obtain ⟨pf, hpf⟩ : ∃ pf, pf = w1.heap.size + 1 := ⟨_, rfl⟩
  rw [← hpt] at VT_2
  rw [← hpf] at VF_2
  rw [← hpf, ← hpt]
  have HP : Hid (w.heap.size < pt ∧ pf = pt + 1) := ⟨by rw [hpt]; exact HPa.out, by rw [hpt, hpf]⟩
  clear hpt hpf eT BX VD_1 BB_1 HPa dl
  generalize (w1.alloc (.cells ([.int .u8 0, .int .u8 0, .int .u8 0, .int .u8 0, .int .u8 0, .int .u8 0, .int .u8 0, .int .u8 0, .int .u8 0, .int .u8 0, .int .u8 0, .int .u8 0, .int .u8 0, .int .u8 0, .int .u8 0, .int .u8 0, .int .u8 0, .int .u8 0, .int .u8 0, .int .u8 0, .int .u8 0, .int .u8 0, .int .u8 0, .int .u8 0, .int .u8 0, .int .u8 0, .int .u8 0, .int .u8 0, .int .u8 0, .int .u8 0, .int .u8 0, .int .u8 0, .int .u8 0, .int .u8 0, .int .u8 0, .int .u8 0, .int .u8 0, .int .u8 0, .int .u8 0, .int .u8 0, .int .u8 0] : List Value).toArray 75)).alloc (.cells (zc lo hi).toArray 77) = w2 at *
  rw [← cb_nil] at VT_2
  rw [← HZ.out] at VF_2
  obtain ⟨dp, hdp⟩ : ∃ dp, dp = w.heap.size := ⟨_, rfl⟩
  have HQ : Hid (dp = w.heap.size) := hdp
  rw [← hdp] at VD_2
  simp only [← hdp]
  clear hdp
  go_wp2_with fail
  go_loopw [7, 9] (fun a pl wr => ∃ k p : Nat, k ≤ K ∧ p ≤ 41 ∧ pl = .int .i64 k ∧ a = .int .i64 p ∧ Hid (p + (wrt s N k).length = 41) ∧ Hid (VA wr pt (cb (wrt s N k)) 75) ∧ Hid (VA wr pf (zw (N / 10 ^ k)) 77) ∧ Hid (VA wr dp [.int .i64 (hi : Int), .int .u64 (lo : Int), .int .i64 (s : Int)] 41) ∧ Hid (Below w.heap.size w wr)) (fun _ pl _ => K - (intOf pl).toNat)
  case atStart => exact ⟨0, 41, by omega, by omega, rfl, rfl, rfl, VT_2, by rw [Nat.pow_zero, Nat.div_one]; exact VF_2, VD_2, BB_2⟩
  case round =>
    clear VT_2 VF_2 VD_2 BB_2
    obtain ⟨k, p, hk, hp41, rfl, rfl, HL, HT, HF, HD, HB⟩ := hrel
    have HLe := HL.out
    have hmx := wrt_le s N k
    by_cases hkK : k = K
    · subst hkK
      have gks : ¬ (k : Int) ≤ s := by have := HP0.out.lo; omega
      rw [HP0.out.done] at HF
      have d2 := HD.out.cell 2 (v := .int .i64 (s : Int)) rfl
      have z0 := HF.out.cell 0 (v := .int .u64 0) rfl
      have z1 := HF.out.cell 1 (v := .int .u64 0) rfl
      have E1 : ∀ w, (Op.equalIn 10000 77 (.agg #[.int .u64 0, .int .u64 0]) (.agg #[.int .u64 0, .int .u64 0])).run Tryz.prog w = .ok true w := fun w => by rw [eq_size]; rfl
      clear HLe hmx
      go_upto_region 22 with fail
      clear d2 z0 z1 E1
      obtain ⟨n, hn⟩ : ∃ n, n = (wrt s N k).length := ⟨_, rfl⟩
      have hn0 : 0 < n := by rw [hn]; exact wrt_pos s N k (by have := HP0.out.lo; omega)
      have hpn : p + n = 41 := by rw [hn]; exact HL.out
      have hsl := sl41 wr pt p n hpn hn0
      have hconv := txt_out HT.out hn hpn 9 Tryz.underlying9
      have HR : Hid (Below w.heap.size w wr) := HB
      clear hn hn0 hpn
      go_wp2_with fail
      exact bodyPost_ret (v := .tuple #[.string (strOfNums ((wrt s N k).map Int.ofNat)), .int .i64 0]) (by simp [results, Tryz.results12, go_sem]) rfl ⟨rfl, HR.out⟩
    have hkl : k < K := by omega
    have hK39 := HP0.out.hi
    obtain ⟨M, hM⟩ : ∃ M, M = N / 10 ^ k := ⟨_, rfl⟩
    rw [← hM] at HF
    have HMb : M < 340282366920938463463374607431768211456 := by rw [hM]; exact Nat.lt_of_le_of_lt (Nat.div_le_self _ _) HN.out
    have hT := fun w => tenth_w M w HMb
    obtain ⟨m0, hm0⟩ : ∃ x, x = M % 18446744073709551616 := ⟨_, rfl⟩
    obtain ⟨m1, hm1⟩ : ∃ x, x = M / 18446744073709551616 := ⟨_, rfl⟩
    obtain ⟨n0, hn0⟩ : ∃ x, x = M / 10 % 18446744073709551616 := ⟨_, rfl⟩
    obtain ⟨n1, hn1⟩ : ∃ x, x = M / 10 / 18446744073709551616 := ⟨_, rfl⟩
    obtain ⟨q, hq⟩ : ∃ x, x = M % 10 := ⟨_, rfl⟩
    have hq9 : q ≤ 9 := by omega
    unfold zw at hT HF
    rw [← hm0, ← hm1, ← hn0, ← hn1, ← hq] at hT
    rw [← hm0, ← hm1] at HF
    have HMe : Hid (M = N / 10 ^ k ∧ q = M % 10 ∧ n0 = M / 10 % 18446744073709551616 ∧ n1 = M / 10 / 18446744073709551616) := ⟨hM, hq, hn0, hn1⟩
    have HM0 : Hid (m0 = M % 18446744073709551616 ∧ m1 = M / 18446744073709551616 ∧ (s < k → M ≠ 0)) := ⟨hm0, hm1, fun h h0 => (HP0.out.more k hkl).elim (fun h1 => by omega) (fun h1 => h1 (by rw [← hM]; exact h0))⟩
    have HKL : Hid (k < K ∧ K ≤ 39) := ⟨hkl, hK39⟩
    obtain ⟨p1, hp1⟩ : ∃ x, x + 1 = p := ⟨p - 1, by omega⟩
    have e1 : (p : Int) - 1 = p1 := by omega
    have p1b : p1 ≤ 40 := by omega
    have HL1 : Hid (p1 + 1 + (wrt s N k).length = 41) := (by omega : p1 + 1 + (wrt s N k).length = 41)
    have bk : (k : Int) ≤ 39 := by omega
    have bp : 1 ≤ (p : Int) := by omega
    have HKs : Hid (k ≤ s → (wrt s N k).length = k) := wrt_lo s N k
    clear HMb hm0 hm1 hn0 hn1 hq hM hkK hmx hkl hK39 hp1 HLe
    by_cases hks : k ≤ s
    · have gks : (k : Int) ≤ s := by omega
      by_cases hdot : k = s
      · by_cases hz : 0 < k
        · have gd : ((k : Int) == (s : Int)) = true := by simp; omega
          have gd0 : 0 < (k : Int) := by omega
          have HDOT : Hid (k = s ∧ 0 < k) := ⟨hdot, hz⟩
          obtain ⟨p0, hp0⟩ : ∃ x, x + 1 = p1 := ⟨p1 - 1, by have := HL1.out; have := HKs.out hks; have := HS.out; omega⟩
          have e2 : (p1 : Int) - 1 = p0 := by omega
          have p0b : p0 ≤ 39 := by omega
          have bp1 : 1 ≤ (p1 : Int) := by omega
          have HL0 : Hid (p0 + 1 + (46 :: wrt s N k).length = 41) := by have := HL1.out; show p0 + 1 + (46 :: wrt s N k).length = 41; simp; omega
          clear hdot hz hp0 hks
          have d2 := HD.out.cell 2 (v := .int .i64 (s : Int)) rfl
          have z0 := HF.out.cell 0 (v := .int .u64 (m0 : Int)) rfl
          have z1 := HF.out.cell 1 (v := .int .u64 (m1 : Int)) rfl
          go_upto_region 13 with fail
          clear d2 z0 z1
          have t0 := HT.out.cell p1 (v := .int .u8 0) (cb_zero HL1.out)
          have t1 := HT.out.free p1
          go_upto_region 15 with fail
          clear t0 t1
          have HTa : Hid (VA (wr.setCell ⟨pt, p1, none⟩ (.int .u8 46)) pt (cb (46 :: wrt s N k)) 75) := by
            have := HT.out.set p1 (.int .u8 46)
            rw [show (Value.int .u8 46) = .int .u8 ((46 : Nat) : Int) from rfl, cb_set HL1.out] at this
            exact this
          have HFa := (show Hid _ from HF.out.set_other (q := pt) (by have := HP.out; omega) p1 (.int .u8 46))
          have HDa := (show Hid _ from HD.out.set_other (q := pt) (by have := HP.out; have := HQ.out; omega) p1 (.int .u8 46))
          have HBa := (show Hid _ from HB.out.setCell (p := ⟨pt, p1, none⟩) (by have := HP.out; show _ ≤ pt; omega) (.int .u8 46))
          clear HT HF HD HB
          generalize wr.setCell ⟨pt, p1, none⟩ (.int .u8 46) = wa at *
          have z0 := HFa.out.cell 0 (v := .int .u64 (m0 : Int)) rfl
          have z1 := HFa.out.cell 1 (v := .int .u64 (m1 : Int)) rfl
          go_wp2_with fail
          clear z0 z1
          refine (hT _).mono ?_
          rintro e wb ⟨rfl, b3⟩
          have HTb := (show Hid _ from HTa.out.step b3)
          have HFb := (show Hid _ from HFa.out.step b3)
          have HDb := (show Hid _ from HDa.out.step b3)
          have HBb := (show Hid _ from HBa.out.trans (b3.mono HBa.out.size))
          clear b3 HTa HFa HDa HBa
          go_upto_region 17 with (refine stA rfl 77 _ _ rfl pf (by rfl) (zc m0 m1) (zc n0 n1) (by rfl) 77 HFb.out infoZ rfl (zc_one _ _) ?_; intro wc v u; have HFc := (show Hid _ from v); have HTc := (show Hid _ from HTb.out.upd u (by have := HP.out; omega)); have HDc := (show Hid _ from HDb.out.upd u (by have := HP.out; have := HQ.out; omega)); have HBc := (show Hid _ from u.bel HBb.out (by have := HP.out; omega)); clear v u HFb HTb HDb HBb)
          have t0 := HTc.out.cell p0 (v := .int .u8 0) (cb_zero HL0.out)
          have t1 := HTc.out.free p0
          go_wp2_with fail
          clear t0 t1
          have eL : wrt s N (k + 1) = (48 + q) :: (46 :: wrt s N k) := by
            obtain ⟨h1, h2, _, _⟩ := HMe.out
            rw [wrt, if_pos HDOT.out, ← h1, ← h2]
          have eM : zw (N / 10 ^ (k + 1)) = zc n0 n1 := by
            obtain ⟨h1, _, h3, h4⟩ := HMe.out
            unfold zw
            rw [Nat.pow_succ, ← Nat.div_div_eq_div_mul, ← h1, h3, h4]
          have eq1 : (48 + (q : Int)) = ((48 + q : Nat) : Int) := by omega
          have hHP := HP.out
          have hHQ := HQ.out
          have hKL := HKL.out
          have hLx := HL0.out
          refine ⟨⟨k + 1, p0, by omega, by omega, by simp, rfl, ?_, ?_, ?_, ?_, ?_⟩, by simp [intOf]; omega⟩
          · have : p0 + (wrt s N (k + 1)).length = 41 := by rw [eL]; simp at hLx ⊢; omega
            exact this
          · have := HTc.out.set p0 (.int .u8 (48 + (q : Int)))
            rw [eq1, cb_set hLx, ← eq1, ← eL] at this
            exact this
          · have := HFc.out.set_other (q := pt) (by omega) p0 (.int .u8 (48 + (q : Int)))
            rw [← eM] at this
            exact this
          · exact HDc.out.set_other (q := pt) (by omega) p0 (.int .u8 (48 + (q : Int)))
          · exact HBc.out.setCell (p := ⟨pt, p0, none⟩) (by show _ ≤ pt; omega) (.int .u8 (48 + (q : Int)))
        · have gd : ((k : Int) == (s : Int)) = true := by simp; omega
          have gd0 : ¬ 0 < (k : Int) := by omega
          have HDOT : Hid (¬ (k = s ∧ 0 < k)) := fun h => hz h.2
          clear hdot hz hks
          have d2 := HD.out.cell 2 (v := .int .i64 (s : Int)) rfl
          have z0 := HF.out.cell 0 (v := .int .u64 (m0 : Int)) rfl
          have z1 := HF.out.cell 1 (v := .int .u64 (m1 : Int)) rfl
          go_upto_region 15 with fail
          clear d2 z0 z1
          have z0 := HF.out.cell 0 (v := .int .u64 (m0 : Int)) rfl
          have z1 := HF.out.cell 1 (v := .int .u64 (m1 : Int)) rfl
          go_wp2_with fail
          clear z0 z1
          refine (hT _).mono ?_
          rintro e wb ⟨rfl, b3⟩
          have HTb := (show Hid _ from HT.out.step b3)
          have HFb := (show Hid _ from HF.out.step b3)
          have HDb := (show Hid _ from HD.out.step b3)
          have HBb := (show Hid _ from HB.out.trans (b3.mono HB.out.size))
          clear b3 HT HF HD HB
          go_upto_region 17 with (refine stA rfl 77 _ _ rfl pf (by rfl) (zc m0 m1) (zc n0 n1) (by rfl) 77 HFb.out infoZ rfl (zc_one _ _) ?_; intro wc v u; have HFc := (show Hid _ from v); have HTc := (show Hid _ from HTb.out.upd u (by have := HP.out; omega)); have HDc := (show Hid _ from HDb.out.upd u (by have := HP.out; have := HQ.out; omega)); have HBc := (show Hid _ from u.bel HBb.out (by have := HP.out; omega)); clear v u HFb HTb HDb HBb)
          have t0 := HTc.out.cell p1 (v := .int .u8 0) (cb_zero HL1.out)
          have t1 := HTc.out.free p1
          go_wp2_with fail
          clear t0 t1
          have eL : wrt s N (k + 1) = (48 + q) :: (wrt s N k) := by
            obtain ⟨h1, h2, _, _⟩ := HMe.out
            rw [wrt, if_neg HDOT.out, ← h1, ← h2]
          have eM : zw (N / 10 ^ (k + 1)) = zc n0 n1 := by
            obtain ⟨h1, _, h3, h4⟩ := HMe.out
            unfold zw
            rw [Nat.pow_succ, ← Nat.div_div_eq_div_mul, ← h1, h3, h4]
          have eq1 : (48 + (q : Int)) = ((48 + q : Nat) : Int) := by omega
          have hHP := HP.out
          have hHQ := HQ.out
          have hKL := HKL.out
          have hLx := HL1.out
          refine ⟨⟨k + 1, p1, by omega, by omega, by simp, rfl, ?_, ?_, ?_, ?_, ?_⟩, by simp [intOf]; omega⟩
          · have : p1 + (wrt s N (k + 1)).length = 41 := by rw [eL]; simp at hLx ⊢; omega
            exact this
          · have := HTc.out.set p1 (.int .u8 (48 + (q : Int)))
            rw [eq1, cb_set hLx, ← eq1, ← eL] at this
            exact this
          · have := HFc.out.set_other (q := pt) (by omega) p1 (.int .u8 (48 + (q : Int)))
            rw [← eM] at this
            exact this
          · exact HDc.out.set_other (q := pt) (by omega) p1 (.int .u8 (48 + (q : Int)))
          · exact HBc.out.setCell (p := ⟨pt, p1, none⟩) (by show _ ≤ pt; omega) (.int .u8 (48 + (q : Int)))
      · have HDOT : Hid (¬ (k = s ∧ 0 < k)) := fun h => hdot h.1
        have gd : ((k : Int) == (s : Int)) = false := by simp; omega
        clear hdot hks
        have d2 := HD.out.cell 2 (v := .int .i64 (s : Int)) rfl
        have z0 := HF.out.cell 0 (v := .int .u64 (m0 : Int)) rfl
        have z1 := HF.out.cell 1 (v := .int .u64 (m1 : Int)) rfl
        go_upto_region 15 with fail
        clear d2 z0 z1
        have z0 := HF.out.cell 0 (v := .int .u64 (m0 : Int)) rfl
        have z1 := HF.out.cell 1 (v := .int .u64 (m1 : Int)) rfl
        go_wp2_with fail
        clear z0 z1
        refine (hT _).mono ?_
        rintro e wb ⟨rfl, b3⟩
        have HTb := (show Hid _ from HT.out.step b3)
        have HFb := (show Hid _ from HF.out.step b3)
        have HDb := (show Hid _ from HD.out.step b3)
        have HBb := (show Hid _ from HB.out.trans (b3.mono HB.out.size))
        clear b3 HT HF HD HB
        go_upto_region 17 with (refine stA rfl 77 _ _ rfl pf (by rfl) (zc m0 m1) (zc n0 n1) (by rfl) 77 HFb.out infoZ rfl (zc_one _ _) ?_; intro wc v u; have HFc := (show Hid _ from v); have HTc := (show Hid _ from HTb.out.upd u (by have := HP.out; omega)); have HDc := (show Hid _ from HDb.out.upd u (by have := HP.out; have := HQ.out; omega)); have HBc := (show Hid _ from u.bel HBb.out (by have := HP.out; omega)); clear v u HFb HTb HDb HBb)
        have t0 := HTc.out.cell p1 (v := .int .u8 0) (cb_zero HL1.out)
        have t1 := HTc.out.free p1
        go_wp2_with fail
        clear t0 t1
        have eL : wrt s N (k + 1) = (48 + q) :: (wrt s N k) := by
          obtain ⟨h1, h2, _, _⟩ := HMe.out
          rw [wrt, if_neg HDOT.out, ← h1, ← h2]
        have eM : zw (N / 10 ^ (k + 1)) = zc n0 n1 := by
          obtain ⟨h1, _, h3, h4⟩ := HMe.out
          unfold zw
          rw [Nat.pow_succ, ← Nat.div_div_eq_div_mul, ← h1, h3, h4]
        have eq1 : (48 + (q : Int)) = ((48 + q : Nat) : Int) := by omega
        have hHP := HP.out
        have hHQ := HQ.out
        have hKL := HKL.out
        have hLx := HL1.out
        refine ⟨⟨k + 1, p1, by omega, by omega, by simp, rfl, ?_, ?_, ?_, ?_, ?_⟩, by simp [intOf]; omega⟩
        · have : p1 + (wrt s N (k + 1)).length = 41 := by rw [eL]; simp at hLx ⊢; omega
          exact this
        · have := HTc.out.set p1 (.int .u8 (48 + (q : Int)))
          rw [eq1, cb_set hLx, ← eq1, ← eL] at this
          exact this
        · have := HFc.out.set_other (q := pt) (by omega) p1 (.int .u8 (48 + (q : Int)))
          rw [← eM] at this
          exact this
        · exact HDc.out.set_other (q := pt) (by omega) p1 (.int .u8 (48 + (q : Int)))
        · exact HBc.out.setCell (p := ⟨pt, p1, none⟩) (by show _ ≤ pt; omega) (.int .u8 (48 + (q : Int)))
    · have gks : ¬ (k : Int) ≤ s := by omega
      have HDOT : Hid (¬ (k = s ∧ 0 < k)) := fun h => hks (by omega)
      have gd : ((k : Int) == (s : Int)) = false := by simp; omega
      have HM1 : Hid (s < k) := (by omega : s < k)
      clear hks
      have d2 := HD.out.cell 2 (v := .int .i64 (s : Int)) rfl
      have z0 := HF.out.cell 0 (v := .int .u64 (m0 : Int)) rfl
      have z1 := HF.out.cell 1 (v := .int .u64 (m1 : Int)) rfl
      have E1 : ∀ w, (Op.equalIn 10000 77 (.agg #[.int .u64 (m0 : Int), .int .u64 (m1 : Int)]) (.agg #[.int .u64 0, .int .u64 0])).run Tryz.prog w = .ok false w := fun w => by
        rw [eq_size]
        have := HM0.out
        have := this.2.2 HM1.out
        congr 1
        simp
        omega
      go_upto_region 15 with fail
      clear d2 z0 z1 E1
      have z0 := HF.out.cell 0 (v := .int .u64 (m0 : Int)) rfl
      have z1 := HF.out.cell 1 (v := .int .u64 (m1 : Int)) rfl
      go_wp2_with fail
      clear z0 z1
      refine (hT _).mono ?_
      rintro e wb ⟨rfl, b3⟩
      have HTb := (show Hid _ from HT.out.step b3)
      have HFb := (show Hid _ from HF.out.step b3)
      have HDb := (show Hid _ from HD.out.step b3)
      have HBb := (show Hid _ from HB.out.trans (b3.mono HB.out.size))
      clear b3 HT HF HD HB
      go_upto_region 17 with (refine stA rfl 77 _ _ rfl pf (by rfl) (zc m0 m1) (zc n0 n1) (by rfl) 77 HFb.out infoZ rfl (zc_one _ _) ?_; intro wc v u; have HFc := (show Hid _ from v); have HTc := (show Hid _ from HTb.out.upd u (by have := HP.out; omega)); have HDc := (show Hid _ from HDb.out.upd u (by have := HP.out; have := HQ.out; omega)); have HBc := (show Hid _ from u.bel HBb.out (by have := HP.out; omega)); clear v u HFb HTb HDb HBb)
      have t0 := HTc.out.cell p1 (v := .int .u8 0) (cb_zero HL1.out)
      have t1 := HTc.out.free p1
      go_wp2_with fail
      clear t0 t1
      have eL : wrt s N (k + 1) = (48 + q) :: (wrt s N k) := by
        obtain ⟨h1, h2, _, _⟩ := HMe.out
        rw [wrt, if_neg HDOT.out, ← h1, ← h2]
      have eM : zw (N / 10 ^ (k + 1)) = zc n0 n1 := by
        obtain ⟨h1, _, h3, h4⟩ := HMe.out
        unfold zw
        rw [Nat.pow_succ, ← Nat.div_div_eq_div_mul, ← h1, h3, h4]
      have eq1 : (48 + (q : Int)) = ((48 + q : Nat) : Int) := by omega
      have hHP := HP.out
      have hHQ := HQ.out
      have hKL := HKL.out
      have hLx := HL1.out
      refine ⟨⟨k + 1, p1, by omega, by omega, by simp, rfl, ?_, ?_, ?_, ?_, ?_⟩, by simp [intOf]; omega⟩
      · have : p1 + (wrt s N (k + 1)).length = 41 := by rw [eL]; simp at hLx ⊢; omega
        exact this
      · have := HTc.out.set p1 (.int .u8 (48 + (q : Int)))
        rw [eq1, cb_set hLx, ← eq1, ← eL] at this
        exact this
      · have := HFc.out.set_other (q := pt) (by omega) p1 (.int .u8 (48 + (q : Int)))
        rw [← eM] at this
        exact this
      · exact HDc.out.set_other (q := pt) (by omega) p1 (.int .u8 (48 + (q : Int)))
      · exact HBc.out.setCell (p := ⟨pt, p1, none⟩) (by show _ ≤ pt; omega) (.int .u8 (48 + (q : Int)))
end Go.Proofs.YteohncnjjgoemaaGreatDoor.dg
/- digits: Write, of every decimal below nought. -/
namespace Go.Proofs.YteohncnjjgoemaaGreatDoor.dg
open Go.RowKit
set_option linter.unusedVariables false
set_option linter.unusedSimpArgs false

set_option maxHeartbeats 4000000 in
set_option maxRecDepth 100000 in
theorem dwrite_neg (c ch cl : Int) (lo hi s K : Nat) (w : World) (hd : IsD c ch cl) (hc : InR c) (hs : (s : Int) ≤ 18) (h0 : c < 0) (hnh : dhi (-c) = hi) (hnl : dlo (-c) = lo) (hlo : lo < 18446744073709551616) (hhi : hi < 9223372036854775808) (hP : Places s (hi * 18446744073709551616 + lo) K) :
    Calls Tryz.prog 12 #[.agg #[.int .i64 ch, .int .u64 cl, .int .i64 s]] w fun e w' => e = .returned (.tuple #[.string (strOfNums ((45 :: wrt s (hi * 18446744073709551616 + lo) K).map Int.ofNat)), .int .i64 0]) ∧ Below w.heap.size w w' := by
  obtain ⟨N, hN⟩ : ∃ N, N = hi * 18446744073709551616 + lo := ⟨_, rfl⟩
  rw [← hN] at hP
  rw [← hN]
  have hzw : zw N = zc lo hi := by
    unfold zw
    rw [show N % 18446744073709551616 = lo by omega, show N / 18446744073709551616 = hi by omega]
  have hNb : N < 340282366920938463463374607431768211456 := by omega
  have HP0 : Hid (Places s N K) := hP
  have HZ : Hid (zw N = zc lo hi) := hzw
  have HN : Hid (N < 340282366920938463463374607431768211456) := hNb
  have HS : Hid ((s : Int) ≤ 18) := hs
  have hg := sign_ok c ch cl s
  have VD_0 := (show Hid _ from va_new w [.int .i64 ch, .int .u64 cl, .int .i64 (s : Int)] 41)
  have BB_0 := (show Hid _ from (Below.refl w.heap.size w).alloc (Nat.le_refl _) (.cells #[.int .i64 ch, .int .u64 cl, .int .i64 (s : Int)] 41))
  have hsg := fun w => sign_ok c ch cl s w hd hc hs
  obtain ⟨g, hgg⟩ : ∃ g, g = sgn c := ⟨_, rfl⟩
  rw [← hgg] at hsg
  have hg0 : g < 0 := by rw [hgg]; unfold sgn; repeat (first | omega | split)
  clear hgg hP hzw hNb hN hg
  go_enter Tryz.func12, Tryz.ntmps12
  go_wp2_with (refine ldA rfl 41 _ rfl w.heap.size (by rfl) [.int .i64 ch, .int .u64 cl, .int .i64 (s : Int)] _ VD_0.out _ Tryz.underlying41 rfl infoD ?_)
  refine (hsg _).mono ?_
  rintro e w1 ⟨rfl, b1⟩
  have VD_1 := (show Hid _ from VD_0.out.step b1)
  have BB_1 := (show Hid _ from BB_0.out.trans (b1.mono BB_0.out.size))
  clear b1 VD_0 BB_0 hsg
  go_wp2_with (refine ldA rfl 41 _ rfl w.heap.size (by rfl) [.int .i64 ch, .int .u64 cl, .int .i64 (s : Int)] _ VD_1.out _ Tryz.underlying41 rfl infoD ?_)
  refine (neg_ok c ch cl s _ hd hc hs).mono ?_
  rintro e w1' ⟨rfl, b1⟩
  rw [hnh, hnl]
  have VD_1' := (show Hid _ from VD_1.out.step b1)
  have BB_1' := (show Hid _ from BB_1.out.trans (b1.mono BB_1.out.size))
  clear b1 VD_1 BB_1
  go_upto_region 6 with (refine stA rfl 41 _ _ rfl w.heap.size (by rfl) [.int .i64 ch, .int .u64 cl, .int .i64 (s : Int)] [.int .i64 (hi : Int), .int .u64 (lo : Int), .int .i64 (s : Int)] (by rfl) 41 VD_1'.out infoD rfl (by intro v hv; simp at hv; rcases hv with rfl | rfl | rfl <;> rfl) ?_; intro w2' v u; have VD_2' := (show Hid _ from v); have BB_2' := (show Hid _ from u.bel BB_1'.out (Nat.le_refl _)); clear VD_1' BB_1' v u)
  have VD_1 := VD_2'
  have BB_1 := BB_2'
  clear VD_2' BB_2'
  obtain ⟨w1, hw1⟩ : ∃ x, x = w2' := ⟨_, rfl⟩
  subst hw1
  have d0 := VD_1.out.cell 0 (v := .int .i64 (hi : Int)) rfl
  have d1 := VD_1.out.cell 1 (v := .int .u64 (lo : Int)) rfl
  have dl := VD_1.out.lt
  go_upto_region 9 with fail
  clear d0 d1
  have HPa : Hid (w.heap.size < w1.heap.size) := dl
  have eT : (w1.alloc (.cells ([.int .u8 0, .int .u8 0, .int .u8 0, .int .u8 0, .int .u8 0, .int .u8 0, .int .u8 0, .int .u8 0, .int .u8 0, .int .u8 0, .int .u8 0, .int .u8 0, .int .u8 0, .int .u8 0, .int .u8 0, .int .u8 0, .int .u8 0, .int .u8 0, .int .u8 0, .int .u8 0, .int .u8 0, .int .u8 0, .int .u8 0, .int .u8 0, .int .u8 0, .int .u8 0, .int .u8 0, .int .u8 0, .int .u8 0, .int .u8 0, .int .u8 0, .int .u8 0, .int .u8 0, .int .u8 0, .int .u8 0, .int .u8 0, .int .u8 0, .int .u8 0, .int .u8 0, .int .u8 0, .int .u8 0] : List Value).toArray 75)).heap.size = w1.heap.size + 1 := by simp
  change Code.wp _ _ _ _ ((w1.alloc (.cells ([.int .u8 0, .int .u8 0, .int .u8 0, .int .u8 0, .int .u8 0, .int .u8 0, .int .u8 0, .int .u8 0, .int .u8 0, .int .u8 0, .int .u8 0, .int .u8 0, .int .u8 0, .int .u8 0, .int .u8 0, .int .u8 0, .int .u8 0, .int .u8 0, .int .u8 0, .int .u8 0, .int .u8 0, .int .u8 0, .int .u8 0, .int .u8 0, .int .u8 0, .int .u8 0, .int .u8 0, .int .u8 0, .int .u8 0, .int .u8 0, .int .u8 0, .int .u8 0, .int .u8 0, .int .u8 0, .int .u8 0, .int .u8 0, .int .u8 0, .int .u8 0, .int .u8 0, .int .u8 0, .int .u8 0] : List Value).toArray 75)).alloc (.cells (zc lo hi).toArray 77))
  have VT_2 := (show Hid _ from (va_new w1 [.int .u8 0, .int .u8 0, .int .u8 0, .int .u8 0, .int .u8 0, .int .u8 0, .int .u8 0, .int .u8 0, .int .u8 0, .int .u8 0, .int .u8 0, .int .u8 0, .int .u8 0, .int .u8 0, .int .u8 0, .int .u8 0, .int .u8 0, .int .u8 0, .int .u8 0, .int .u8 0, .int .u8 0, .int .u8 0, .int .u8 0, .int .u8 0, .int .u8 0, .int .u8 0, .int .u8 0, .int .u8 0, .int .u8 0, .int .u8 0, .int .u8 0, .int .u8 0, .int .u8 0, .int .u8 0, .int .u8 0, .int .u8 0, .int .u8 0, .int .u8 0, .int .u8 0, .int .u8 0, .int .u8 0] 75).alloc (.cells (zc lo hi).toArray 77))
  have VF_2 := (show Hid _ from va_new (w1.alloc (.cells ([.int .u8 0, .int .u8 0, .int .u8 0, .int .u8 0, .int .u8 0, .int .u8 0, .int .u8 0, .int .u8 0, .int .u8 0, .int .u8 0, .int .u8 0, .int .u8 0, .int .u8 0, .int .u8 0, .int .u8 0, .int .u8 0, .int .u8 0, .int .u8 0, .int .u8 0, .int .u8 0, .int .u8 0, .int .u8 0, .int .u8 0, .int .u8 0, .int .u8 0, .int .u8 0, .int .u8 0, .int .u8 0, .int .u8 0, .int .u8 0, .int .u8 0, .int .u8 0, .int .u8 0, .int .u8 0, .int .u8 0, .int .u8 0, .int .u8 0, .int .u8 0, .int .u8 0, .int .u8 0, .int .u8 0] : List Value).toArray 75)) (zc lo hi) 77)
  rw [eT] at VF_2
  have VD_2 := (show Hid _ from (VD_1.out.alloc (.cells ([.int .u8 0, .int .u8 0, .int .u8 0, .int .u8 0, .int .u8 0, .int .u8 0, .int .u8 0, .int .u8 0, .int .u8 0, .int .u8 0, .int .u8 0, .int .u8 0, .int .u8 0, .int .u8 0, .int .u8 0, .int .u8 0, .int .u8 0, .int .u8 0, .int .u8 0, .int .u8 0, .int .u8 0, .int .u8 0, .int .u8 0, .int .u8 0, .int .u8 0, .int .u8 0, .int .u8 0, .int .u8 0, .int .u8 0, .int .u8 0, .int .u8 0, .int .u8 0, .int .u8 0, .int .u8 0, .int .u8 0, .int .u8 0, .int .u8 0, .int .u8 0, .int .u8 0, .int .u8 0, .int .u8 0] : List Value).toArray 75)).alloc (.cells (zc lo hi).toArray 77))
  have BX := BB_1.out.alloc BB_1.out.size (.cells ([.int .u8 0, .int .u8 0, .int .u8 0, .int .u8 0, .int .u8 0, .int .u8 0, .int .u8 0, .int .u8 0, .int .u8 0, .int .u8 0, .int .u8 0, .int .u8 0, .int .u8 0, .int .u8 0, .int .u8 0, .int .u8 0, .int .u8 0, .int .u8 0, .int .u8 0, .int .u8 0, .int .u8 0, .int .u8 0, .int .u8 0, .int .u8 0, .int .u8 0, .int .u8 0, .int .u8 0, .int .u8 0, .int .u8 0, .int .u8 0, .int .u8 0, .int .u8 0, .int .u8 0, .int .u8 0, .int .u8 0, .int .u8 0, .int .u8 0, .int .u8 0, .int .u8 0, .int .u8 0, .int .u8 0] : List Value).toArray 75)
  have BB_2 := (show Hid _ from BX.alloc BX.size (.cells (zc lo hi).toArray 77))
  obtain ⟨pt, hpt⟩ : ∃ pt, pt = w1.heap.size := ⟨_, rfl⟩
  obtain ⟨pf, hpf⟩ : ∃ pf, pf = w1.heap.size + 1 := ⟨_, rfl⟩
  rw [← hpt] at VT_2
  rw [← hpf] at VF_2
  rw [← hpf, ← hpt]
  have HP : Hid (w.heap.size < pt ∧ pf = pt + 1) := ⟨by rw [hpt]; exact HPa.out, by rw [hpt, hpf]⟩
  clear hpt hpf eT BX VD_1 BB_1 HPa dl
  generalize (w1.alloc (.cells ([.int .u8 0, .int .u8 0, .int .u8 0, .int .u8 0, .int .u8 0, .int .u8 0, .int .u8 0, .int .u8 0, .int .u8 0, .int .u8 0, .int .u8 0, .int .u8 0, .int .u8 0, .int .u8 0, .int .u8 0, .int .u8 0, .int .u8 0, .int .u8 0, .int .u8 0, .int .u8 0, .int .u8 0, .int .u8 0, .int .u8 0, .int .u8 0, .int .u8 0, .int .u8 0, .int .u8 0, .int .u8 0, .int .u8 0, .int .u8 0, .int .u8 0, .int .u8 0, .int .u8 0, .int .u8 0, .int .u8 0, .int .u8 0, .int .u8 0, .int .u8 0, .int .u8 0, .int .u8 0, .int .u8 0] : List Value).toArray 75)).alloc (.cells (zc lo hi).toArray 77) = w2 at *
  rw [← cb_nil] at VT_2
  rw [← HZ.out] at VF_2
  obtain ⟨dp, hdp⟩ : ∃ dp, dp = w.heap.size := ⟨_, rfl⟩
  have HQ : Hid (dp = w.heap.size) := hdp
  rw [← hdp] at VD_2
  simp only [← hdp]
  clear hdp
  go_wp2_with fail
  go_loopw [7, 9] (fun a pl wr => ∃ k p : Nat, k ≤ K ∧ p ≤ 41 ∧ pl = .int .i64 k ∧ a = .int .i64 p ∧ Hid (p + (wrt s N k).length = 41) ∧ Hid (VA wr pt (cb (wrt s N k)) 75) ∧ Hid (VA wr pf (zw (N / 10 ^ k)) 77) ∧ Hid (VA wr dp [.int .i64 (hi : Int), .int .u64 (lo : Int), .int .i64 (s : Int)] 41) ∧ Hid (Below w.heap.size w wr)) (fun _ pl _ => K - (intOf pl).toNat)
  case atStart => exact ⟨0, 41, by omega, by omega, rfl, rfl, rfl, VT_2, by rw [Nat.pow_zero, Nat.div_one]; exact VF_2, VD_2, BB_2⟩
  case round =>
    clear VT_2 VF_2 VD_2 BB_2
    obtain ⟨k, p, hk, hp41, rfl, rfl, HL, HT, HF, HD, HB⟩ := hrel
    have HLe := HL.out
    have hmx := wrt_le s N k
    by_cases hkK : k = K
    · subst hkK
      have gks : ¬ (k : Int) ≤ s := by have := HP0.out.lo; omega
      rw [HP0.out.done] at HF
      have d2 := HD.out.cell 2 (v := .int .i64 (s : Int)) rfl
      have z0 := HF.out.cell 0 (v := .int .u64 0) rfl
      have z1 := HF.out.cell 1 (v := .int .u64 0) rfl
      have E1 : ∀ w, (Op.equalIn 10000 77 (.agg #[.int .u64 0, .int .u64 0]) (.agg #[.int .u64 0, .int .u64 0])).run Tryz.prog w = .ok true w := fun w => by rw [eq_size]; rfl
      clear HLe hmx
      have hlen := wrt_le s N k
      have hk39 := HP0.out.hi
      have hL := HL.out
      have hdn := HP0.out.lo
      have hl40 : (wrt s N k).length ≤ 40 := by omega
      obtain ⟨p1, hp1⟩ : ∃ x, x + 1 = p := ⟨p - 1, by omega⟩
      have e1 : (p : Int) - 1 = p1 := by omega
      have p1b : p1 ≤ 40 := by omega
      have bp : 1 ≤ (p : Int) := by omega
      have HL1 : Hid (p1 + 1 + (wrt s N k).length = 41) := (by omega : p1 + 1 + (wrt s N k).length = 41)
      have HK0 : Hid (0 < k) := (by omega : 0 < k)
      clear hlen hk39 hL hdn hl40 hp1
      have t0 := HT.out.cell p1 (v := .int .u8 0) (cb_zero HL1.out)
      have t1 := HT.out.free p1
      go_upto_region 22 with fail
      clear d2 z0 z1 E1 t0 t1
      have HTa : Hid (VA (wr.setCell ⟨pt, p1, none⟩ (.int .u8 45)) pt (cb (45 :: wrt s N k)) 75) := by
        have := HT.out.set p1 (.int .u8 45)
        rw [show (Value.int .u8 45) = .int .u8 ((45 : Nat) : Int) from rfl, cb_set HL1.out] at this
        exact this
      have HBa : Hid (Below w.heap.size w (wr.setCell ⟨pt, p1, none⟩ (.int .u8 45))) := HB.out.setCell (p := ⟨pt, p1, none⟩) (by have := HP.out; show _ ≤ pt; omega) (.int .u8 45)
      clear HT HF HD HB
      generalize wr.setCell ⟨pt, p1, none⟩ (.int .u8 45) = wa at *
      obtain ⟨n, hn⟩ : ∃ n, n = (45 :: wrt s N k).length := ⟨_, rfl⟩
      have hn0 : 0 < n := by rw [hn]; simp
      have hpn : p1 + n = 41 := by rw [hn]; have := HL1.out; simp; omega
      have hsl := sl41 wa pt p1 n hpn hn0
      have hconv := txt_out HTa.out hn hpn 9 Tryz.underlying9
      clear hn hn0 hpn
      go_wp2_with fail
      exact bodyPost_ret (v := .tuple #[.string (strOfNums ((45 :: wrt s N k).map Int.ofNat)), .int .i64 0]) (by simp [results, Tryz.results12, go_sem]) rfl ⟨rfl, HBa.out⟩
    have hkl : k < K := by omega
    have hK39 := HP0.out.hi
    obtain ⟨M, hM⟩ : ∃ M, M = N / 10 ^ k := ⟨_, rfl⟩
    rw [← hM] at HF
    have HMb : M < 340282366920938463463374607431768211456 := by rw [hM]; exact Nat.lt_of_le_of_lt (Nat.div_le_self _ _) HN.out
    have hT := fun w => tenth_w M w HMb
    obtain ⟨m0, hm0⟩ : ∃ x, x = M % 18446744073709551616 := ⟨_, rfl⟩
    obtain ⟨m1, hm1⟩ : ∃ x, x = M / 18446744073709551616 := ⟨_, rfl⟩
    obtain ⟨n0, hn0⟩ : ∃ x, x = M / 10 % 18446744073709551616 := ⟨_, rfl⟩
    obtain ⟨n1, hn1⟩ : ∃ x, x = M / 10 / 18446744073709551616 := ⟨_, rfl⟩
    obtain ⟨q, hq⟩ : ∃ x, x = M % 10 := ⟨_, rfl⟩
    have hq9 : q ≤ 9 := by omega
    unfold zw at hT HF
    rw [← hm0, ← hm1, ← hn0, ← hn1, ← hq] at hT
    rw [← hm0, ← hm1] at HF
    have HMe : Hid (M = N / 10 ^ k ∧ q = M % 10 ∧ n0 = M / 10 % 18446744073709551616 ∧ n1 = M / 10 / 18446744073709551616) := ⟨hM, hq, hn0, hn1⟩
    have HM0 : Hid (m0 = M % 18446744073709551616 ∧ m1 = M / 18446744073709551616 ∧ (s < k → M ≠ 0)) := ⟨hm0, hm1, fun h h0 => (HP0.out.more k hkl).elim (fun h1 => by omega) (fun h1 => h1 (by rw [← hM]; exact h0))⟩
    have HKL : Hid (k < K ∧ K ≤ 39) := ⟨hkl, hK39⟩
    obtain ⟨p1, hp1⟩ : ∃ x, x + 1 = p := ⟨p - 1, by omega⟩
    have e1 : (p : Int) - 1 = p1 := by omega
    have p1b : p1 ≤ 40 := by omega
    have HL1 : Hid (p1 + 1 + (wrt s N k).length = 41) := (by omega : p1 + 1 + (wrt s N k).length = 41)
    have bk : (k : Int) ≤ 39 := by omega
    have bp : 1 ≤ (p : Int) := by omega
    have HKs : Hid (k ≤ s → (wrt s N k).length = k) := wrt_lo s N k
    clear HMb hm0 hm1 hn0 hn1 hq hM hkK hmx hkl hK39 hp1 HLe
    by_cases hks : k ≤ s
    · have gks : (k : Int) ≤ s := by omega
      by_cases hdot : k = s
      · by_cases hz : 0 < k
        · have gd : ((k : Int) == (s : Int)) = true := by simp; omega
          have gd0 : 0 < (k : Int) := by omega
          have HDOT : Hid (k = s ∧ 0 < k) := ⟨hdot, hz⟩
          obtain ⟨p0, hp0⟩ : ∃ x, x + 1 = p1 := ⟨p1 - 1, by have := HL1.out; have := HKs.out hks; have := HS.out; omega⟩
          have e2 : (p1 : Int) - 1 = p0 := by omega
          have p0b : p0 ≤ 39 := by omega
          have bp1 : 1 ≤ (p1 : Int) := by omega
          have HL0 : Hid (p0 + 1 + (46 :: wrt s N k).length = 41) := by have := HL1.out; show p0 + 1 + (46 :: wrt s N k).length = 41; simp; omega
          clear hdot hz hp0 hks
          have d2 := HD.out.cell 2 (v := .int .i64 (s : Int)) rfl
          have z0 := HF.out.cell 0 (v := .int .u64 (m0 : Int)) rfl
          have z1 := HF.out.cell 1 (v := .int .u64 (m1 : Int)) rfl
          go_upto_region 13 with fail
          clear d2 z0 z1
          have t0 := HT.out.cell p1 (v := .int .u8 0) (cb_zero HL1.out)
          have t1 := HT.out.free p1
          go_upto_region 15 with fail
          clear t0 t1
          have HTa : Hid (VA (wr.setCell ⟨pt, p1, none⟩ (.int .u8 46)) pt (cb (46 :: wrt s N k)) 75) := by
            have := HT.out.set p1 (.int .u8 46)
            rw [show (Value.int .u8 46) = .int .u8 ((46 : Nat) : Int) from rfl, cb_set HL1.out] at this
            exact this
          have HFa := (show Hid _ from HF.out.set_other (q := pt) (by have := HP.out; omega) p1 (.int .u8 46))
          have HDa := (show Hid _ from HD.out.set_other (q := pt) (by have := HP.out; have := HQ.out; omega) p1 (.int .u8 46))
          have HBa := (show Hid _ from HB.out.setCell (p := ⟨pt, p1, none⟩) (by have := HP.out; show _ ≤ pt; omega) (.int .u8 46))
          clear HT HF HD HB
          generalize wr.setCell ⟨pt, p1, none⟩ (.int .u8 46) = wa at *
          have z0 := HFa.out.cell 0 (v := .int .u64 (m0 : Int)) rfl
          have z1 := HFa.out.cell 1 (v := .int .u64 (m1 : Int)) rfl
          go_wp2_with fail
          clear z0 z1
          refine (hT _).mono ?_
          rintro e wb ⟨rfl, b3⟩
          have HTb := (show Hid _ from HTa.out.step b3)
          have HFb := (show Hid _ from HFa.out.step b3)
          have HDb := (show Hid _ from HDa.out.step b3)
          have HBb := (show Hid _ from HBa.out.trans (b3.mono HBa.out.size))
          clear b3 HTa HFa HDa HBa
          go_upto_region 17 with (refine stA rfl 77 _ _ rfl pf (by rfl) (zc m0 m1) (zc n0 n1) (by rfl) 77 HFb.out infoZ rfl (zc_one _ _) ?_; intro wc v u; have HFc := (show Hid _ from v); have HTc := (show Hid _ from HTb.out.upd u (by have := HP.out; omega)); have HDc := (show Hid _ from HDb.out.upd u (by have := HP.out; have := HQ.out; omega)); have HBc := (show Hid _ from u.bel HBb.out (by have := HP.out; omega)); clear v u HFb HTb HDb HBb)
          have t0 := HTc.out.cell p0 (v := .int .u8 0) (cb_zero HL0.out)
          have t1 := HTc.out.free p0
          go_wp2_with fail
          clear t0 t1
          have eL : wrt s N (k + 1) = (48 + q) :: (46 :: wrt s N k) := by
            obtain ⟨h1, h2, _, _⟩ := HMe.out
            rw [wrt, if_pos HDOT.out, ← h1, ← h2]
          have eM : zw (N / 10 ^ (k + 1)) = zc n0 n1 := by
            obtain ⟨h1, _, h3, h4⟩ := HMe.out
            unfold zw
            rw [Nat.pow_succ, ← Nat.div_div_eq_div_mul, ← h1, h3, h4]
          have eq1 : (48 + (q : Int)) = ((48 + q : Nat) : Int) := by omega
          have hHP := HP.out
          have hHQ := HQ.out
          have hKL := HKL.out
          have hLx := HL0.out
          refine ⟨⟨k + 1, p0, by omega, by omega, by simp, rfl, ?_, ?_, ?_, ?_, ?_⟩, by simp [intOf]; omega⟩
          · have : p0 + (wrt s N (k + 1)).length = 41 := by rw [eL]; simp at hLx ⊢; omega
            exact this
          · have := HTc.out.set p0 (.int .u8 (48 + (q : Int)))
            rw [eq1, cb_set hLx, ← eq1, ← eL] at this
            exact this
          · have := HFc.out.set_other (q := pt) (by omega) p0 (.int .u8 (48 + (q : Int)))
            rw [← eM] at this
            exact this
          · exact HDc.out.set_other (q := pt) (by omega) p0 (.int .u8 (48 + (q : Int)))
          · exact HBc.out.setCell (p := ⟨pt, p0, none⟩) (by show _ ≤ pt; omega) (.int .u8 (48 + (q : Int)))
        · have gd : ((k : Int) == (s : Int)) = true := by simp; omega
          have gd0 : ¬ 0 < (k : Int) := by omega
          have HDOT : Hid (¬ (k = s ∧ 0 < k)) := fun h => hz h.2
          clear hdot hz hks
          have d2 := HD.out.cell 2 (v := .int .i64 (s : Int)) rfl
          have z0 := HF.out.cell 0 (v := .int .u64 (m0 : Int)) rfl
          have z1 := HF.out.cell 1 (v := .int .u64 (m1 : Int)) rfl
          go_upto_region 15 with fail
          clear d2 z0 z1
          have z0 := HF.out.cell 0 (v := .int .u64 (m0 : Int)) rfl
          have z1 := HF.out.cell 1 (v := .int .u64 (m1 : Int)) rfl
          go_wp2_with fail
          clear z0 z1
          refine (hT _).mono ?_
          rintro e wb ⟨rfl, b3⟩
          have HTb := (show Hid _ from HT.out.step b3)
          have HFb := (show Hid _ from HF.out.step b3)
          have HDb := (show Hid _ from HD.out.step b3)
          have HBb := (show Hid _ from HB.out.trans (b3.mono HB.out.size))
          clear b3 HT HF HD HB
          go_upto_region 17 with (refine stA rfl 77 _ _ rfl pf (by rfl) (zc m0 m1) (zc n0 n1) (by rfl) 77 HFb.out infoZ rfl (zc_one _ _) ?_; intro wc v u; have HFc := (show Hid _ from v); have HTc := (show Hid _ from HTb.out.upd u (by have := HP.out; omega)); have HDc := (show Hid _ from HDb.out.upd u (by have := HP.out; have := HQ.out; omega)); have HBc := (show Hid _ from u.bel HBb.out (by have := HP.out; omega)); clear v u HFb HTb HDb HBb)
          have t0 := HTc.out.cell p1 (v := .int .u8 0) (cb_zero HL1.out)
          have t1 := HTc.out.free p1
          go_wp2_with fail
          clear t0 t1
          have eL : wrt s N (k + 1) = (48 + q) :: (wrt s N k) := by
            obtain ⟨h1, h2, _, _⟩ := HMe.out
            rw [wrt, if_neg HDOT.out, ← h1, ← h2]
          have eM : zw (N / 10 ^ (k + 1)) = zc n0 n1 := by
            obtain ⟨h1, _, h3, h4⟩ := HMe.out
            unfold zw
            rw [Nat.pow_succ, ← Nat.div_div_eq_div_mul, ← h1, h3, h4]
          have eq1 : (48 + (q : Int)) = ((48 + q : Nat) : Int) := by omega
          have hHP := HP.out
          have hHQ := HQ.out
          have hKL := HKL.out
          have hLx := HL1.out
          refine ⟨⟨k + 1, p1, by omega, by omega, by simp, rfl, ?_, ?_, ?_, ?_, ?_⟩, by simp [intOf]; omega⟩
          · have : p1 + (wrt s N (k + 1)).length = 41 := by rw [eL]; simp at hLx ⊢; omega
            exact this
          · have := HTc.out.set p1 (.int .u8 (48 + (q : Int)))
            rw [eq1, cb_set hLx, ← eq1, ← eL] at this
            exact this
          · have := HFc.out.set_other (q := pt) (by omega) p1 (.int .u8 (48 + (q : Int)))
            rw [← eM] at this
            exact this
          · exact HDc.out.set_other (q := pt) (by omega) p1 (.int .u8 (48 + (q : Int)))
          · exact HBc.out.setCell (p := ⟨pt, p1, none⟩) (by show _ ≤ pt; omega) (.int .u8 (48 + (q : Int)))
      · have HDOT : Hid (¬ (k = s ∧ 0 < k)) := fun h => hdot h.1
        have gd : ((k : Int) == (s : Int)) = false := by simp; omega
        clear hdot hks
        have d2 := HD.out.cell 2 (v := .int .i64 (s : Int)) rfl
        have z0 := HF.out.cell 0 (v := .int .u64 (m0 : Int)) rfl
        have z1 := HF.out.cell 1 (v := .int .u64 (m1 : Int)) rfl
        go_upto_region 15 with fail
        clear d2 z0 z1
        have z0 := HF.out.cell 0 (v := .int .u64 (m0 : Int)) rfl
        have z1 := HF.out.cell 1 (v := .int .u64 (m1 : Int)) rfl
        go_wp2_with fail
        clear z0 z1
        refine (hT _).mono ?_
        rintro e wb ⟨rfl, b3⟩
        have HTb := (show Hid _ from HT.out.step b3)
        have HFb := (show Hid _ from HF.out.step b3)
        have HDb := (show Hid _ from HD.out.step b3)
        have HBb := (show Hid _ from HB.out.trans (b3.mono HB.out.size))
        clear b3 HT HF HD HB
        go_upto_region 17 with (refine stA rfl 77 _ _ rfl pf (by rfl) (zc m0 m1) (zc n0 n1) (by rfl) 77 HFb.out infoZ rfl (zc_one _ _) ?_; intro wc v u; have HFc := (show Hid _ from v); have HTc := (show Hid _ from HTb.out.upd u (by have := HP.out; omega)); have HDc := (show Hid _ from HDb.out.upd u (by have := HP.out; have := HQ.out; omega)); have HBc := (show Hid _ from u.bel HBb.out (by have := HP.out; omega)); clear v u HFb HTb HDb HBb)
        have t0 := HTc.out.cell p1 (v := .int .u8 0) (cb_zero HL1.out)
        have t1 := HTc.out.free p1
        go_wp2_with fail
        clear t0 t1
        have eL : wrt s N (k + 1) = (48 + q) :: (wrt s N k) := by
          obtain ⟨h1, h2, _, _⟩ := HMe.out
          rw [wrt, if_neg HDOT.out, ← h1, ← h2]
        have eM : zw (N / 10 ^ (k + 1)) = zc n0 n1 := by
          obtain ⟨h1, _, h3, h4⟩ := HMe.out
          unfold zw
          rw [Nat.pow_succ, ← Nat.div_div_eq_div_mul, ← h1, h3, h4]
        have eq1 : (48 + (q : Int)) = ((48 + q : Nat) : Int) := by omega
        have hHP := HP.out
        have hHQ := HQ.out
        have hKL := HKL.out
        have hLx := HL1.out
        refine ⟨⟨k + 1, p1, by omega, by omega, by simp, rfl, ?_, ?_, ?_, ?_, ?_⟩, by simp [intOf]; omega⟩
        · have : p1 + (wrt s N (k + 1)).length = 41 := by rw [eL]; simp at hLx ⊢; omega
          exact this
        · have := HTc.out.set p1 (.int .u8 (48 + (q : Int)))
          rw [eq1, cb_set hLx, ← eq1, ← eL] at this
          exact this
        · have := HFc.out.set_other (q := pt) (by omega) p1 (.int .u8 (48 + (q : Int)))
          rw [← eM] at this
          exact this
        · exact HDc.out.set_other (q := pt) (by omega) p1 (.int .u8 (48 + (q : Int)))
        · exact HBc.out.setCell (p := ⟨pt, p1, none⟩) (by show _ ≤ pt; omega) (.int .u8 (48 + (q : Int)))
    · have gks : ¬ (k : Int) ≤ s := by omega
      have HDOT : Hid (¬ (k = s ∧ 0 < k)) := fun h => hks (by omega)
      have gd : ((k : Int) == (s : Int)) = false := by simp; omega
      have HM1 : Hid (s < k) := (by omega : s < k)
      clear hks
      have d2 := HD.out.cell 2 (v := .int .i64 (s : Int)) rfl
      have z0 := HF.out.cell 0 (v := .int .u64 (m0 : Int)) rfl
      have z1 := HF.out.cell 1 (v := .int .u64 (m1 : Int)) rfl
      have E1 : ∀ w, (Op.equalIn 10000 77 (.agg #[.int .u64 (m0 : Int), .int .u64 (m1 : Int)]) (.agg #[.int .u64 0, .int .u64 0])).run Tryz.prog w = .ok false w := fun w => by
        rw [eq_size]
        have := HM0.out
        have := this.2.2 HM1.out
        congr 1
        simp
        omega
      go_upto_region 15 with fail
      clear d2 z0 z1 E1
      have z0 := HF.out.cell 0 (v := .int .u64 (m0 : Int)) rfl
      have z1 := HF.out.cell 1 (v := .int .u64 (m1 : Int)) rfl
      go_wp2_with fail
      clear z0 z1
      refine (hT _).mono ?_
      rintro e wb ⟨rfl, b3⟩
      have HTb := (show Hid _ from HT.out.step b3)
      have HFb := (show Hid _ from HF.out.step b3)
      have HDb := (show Hid _ from HD.out.step b3)
      have HBb := (show Hid _ from HB.out.trans (b3.mono HB.out.size))
      clear b3 HT HF HD HB
      go_upto_region 17 with (refine stA rfl 77 _ _ rfl pf (by rfl) (zc m0 m1) (zc n0 n1) (by rfl) 77 HFb.out infoZ rfl (zc_one _ _) ?_; intro wc v u; have HFc := (show Hid _ from v); have HTc := (show Hid _ from HTb.out.upd u (by have := HP.out; omega)); have HDc := (show Hid _ from HDb.out.upd u (by have := HP.out; have := HQ.out; omega)); have HBc := (show Hid _ from u.bel HBb.out (by have := HP.out; omega)); clear v u HFb HTb HDb HBb)
      have t0 := HTc.out.cell p1 (v := .int .u8 0) (cb_zero HL1.out)
      have t1 := HTc.out.free p1
      go_wp2_with fail
      clear t0 t1
      have eL : wrt s N (k + 1) = (48 + q) :: (wrt s N k) := by
        obtain ⟨h1, h2, _, _⟩ := HMe.out
        rw [wrt, if_neg HDOT.out, ← h1, ← h2]
      have eM : zw (N / 10 ^ (k + 1)) = zc n0 n1 := by
        obtain ⟨h1, _, h3, h4⟩ := HMe.out
        unfold zw
        rw [Nat.pow_succ, ← Nat.div_div_eq_div_mul, ← h1, h3, h4]
      have eq1 : (48 + (q : Int)) = ((48 + q : Nat) : Int) := by omega
      have hHP := HP.out
      have hHQ := HQ.out
      have hKL := HKL.out
      have hLx := HL1.out
      refine ⟨⟨k + 1, p1, by omega, by omega, by simp, rfl, ?_, ?_, ?_, ?_, ?_⟩, by simp [intOf]; omega⟩
      · have : p1 + (wrt s N (k + 1)).length = 41 := by rw [eL]; simp at hLx ⊢; omega
        exact this
      · have := HTc.out.set p1 (.int .u8 (48 + (q : Int)))
        rw [eq1, cb_set hLx, ← eq1, ← eL] at this
        exact this
      · have := HFc.out.set_other (q := pt) (by omega) p1 (.int .u8 (48 + (q : Int)))
        rw [← eM] at this
        exact this
      · exact HDc.out.set_other (q := pt) (by omega) p1 (.int .u8 (48 + (q : Int)))
      · exact HBc.out.setCell (p := ⟨pt, p1, none⟩) (by show _ ≤ pt; omega) (.int .u8 (48 + (q : Int)))
end Go.Proofs.YteohncnjjgoemaaGreatDoor.dg
/- digits: texts in plain numbers; Write of every decimal in form. -/
namespace Go.Proofs.YteohncnjjgoemaaGreatDoor.dg
open Go.RowKit
set_option linter.unusedVariables false
set_option linter.unusedSimpArgs false

def tx (L : List Nat) : ByteArray := strOfNums (L.map Int.ofNat)
theorem tx_size (L : List Nat) : (tx L).size = L.length := by unfold tx; rw [strOfNums_size]; simp
theorem bt_tx {L : List Nat} (hL : ∀ x ∈ L, x < 256) (i : Nat) : bt (tx L) i = L.getD i 256 := by
  by_cases h : i < L.length
  · have h2 : i < (tx L).size := by rw [tx_size]; exact h
    rw [bt_in h2]
    have hx := hL L[i] (List.getElem_mem h)
    have : (tx L)[i] = UInt8.ofNat L[i] := by
      show ((L.map Int.ofNat).map fun n => UInt8.ofNat n.toNat).toArray[i]'_ = _
      simp
    rw [this, UInt8.toNat_ofNat']
    simp [List.getD, h]
    omega
  · have h2 : ¬ i < (tx L).size := by rw [tx_size]; exact h
    unfold bt
    rw [dif_neg h2]
    simp [List.getD, h]
theorem places_up (s N : Nat) : ∀ m, N / 10 ^ (s + 1 + m) = 0 → ∃ K, s < K ∧ K ≤ s + 1 + m ∧ N / 10 ^ K = 0 ∧ ∀ j, j < K → j ≤ s ∨ N / 10 ^ j ≠ 0
  | 0, h => ⟨s + 1, by omega, by omega, h, fun j hj => Or.inl (by omega)⟩
  | m + 1, h => by
    by_cases h2 : N / 10 ^ (s + 1 + m) = 0
    · obtain ⟨K, a, b, c, d⟩ := places_up s N m h2
      exact ⟨K, a, by omega, c, d⟩
    · refine ⟨s + 1 + (m + 1), by omega, by omega, h, fun j hj => Or.inr fun e => h2 ?_⟩
      have : 10 ^ (s + 1 + m) = 10 ^ j * 10 ^ (s + 1 + m - j) := by rw [← Nat.pow_add]; congr 1; omega
      rw [this, ← Nat.div_div_eq_div_mul, e]
      simp
theorem places_any (s N : Nat) (hs : s ≤ 18) (hN : N < B127) : ∃ K, Places s N K := by
  obtain ⟨K, a, b, c, d⟩ := places_up s N (38 - s) (by
    rw [show s + 1 + (38 - s) = 39 by omega]
    exact Nat.div_eq_of_lt (Nat.lt_trans hN (by decide)))
  exact ⟨K, a, by omega, c, d⟩
/-- the letters of a decimal -/
def wtx (c : Int) (s K : Nat) : List Nat := if c < 0 then 45 :: wrt s c.natAbs K else wrt s c.natAbs K
theorem dwrite_any (c : Int) (s : Nat) (hc : InR c) (hs : s ≤ 18) : ∃ K, Places s c.natAbs K ∧ ∀ w, Calls Tryz.prog 12 #[.agg (dcs c s).toArray] w fun e w' => e = .returned (.tuple #[.string (tx (wtx c s K)), .int .i64 0]) ∧ Below w.heap.size w w' := by
  have h1 := hc.lo
  have h2 := hc.hi
  rw [M127_eq] at h1 h2
  obtain ⟨K, hK⟩ := places_any s c.natAbs hs (by unfold B127; omega)
  refine ⟨K, hK, fun w => ?_⟩
  have e : c.natAbs / 18446744073709551616 * 18446744073709551616 + c.natAbs % 18446744073709551616 = c.natAbs := by omega
  by_cases h0 : c < 0
  · have := dwrite_neg c _ _ (c.natAbs % 18446744073709551616) (c.natAbs / 18446744073709551616) s K w (IsD.self c) hc (by omega) h0 (by unfold dhi; omega) (by unfold dlo; omega) (by omega) (by omega) (by rw [e]; exact hK)
    rw [e] at this
    unfold wtx tx
    rw [if_pos h0]
    exact this
  · have := dwrite_pos c (dhi c) (dlo c) (c.natAbs % 18446744073709551616) (c.natAbs / 18446744073709551616) s K w (IsD.self c) hc (by omega) (by omega) (by unfold dhi; omega) (by unfold dlo; omega) (by omega) (by omega) (by rw [e]; exact hK)
    rw [e] at this
    unfold wtx tx
    rw [if_neg h0]
    exact this
theorem wlo (s N : Nat) : ∀ k, k ≤ s → ∀ m, m < k → (wrt s N k).getD m 256 = 48 + N / 10 ^ (k - 1 - m) % 10
  | 0, _, m, h => absurd h (by omega)
  | k + 1, hk, m, h => by
    have hn : ¬ (k = s ∧ 0 < k) := by omega
    rw [wrt, if_neg hn]
    match m, h with
    | 0, _ => simp
    | m + 1, h =>
      rw [List.getD_cons_succ, wlo s N k (by omega) m (by omega)]
      congr 4
      omega
theorem whi (s N : Nat) : ∀ n, 1 ≤ n → ∀ m, m < n → (wrt s N (s + n)).getD m 256 = 48 + N / 10 ^ (s + n - 1 - m) % 10
  | 0, h, _, _ => absurd h (by omega)
  | n + 1, _, m, h => by
    rw [show s + (n + 1) = (s + n) + 1 by omega, wrt]
    match m, h with
    | 0, _ => simp
    | m + 1, h =>
      have hn : ¬ (s + n = s ∧ 0 < s + n) := by omega
      rw [if_neg hn, List.getD_cons_succ, whi s N n (by omega) m (by omega)]
      congr 4
      omega
theorem wpt (s N : Nat) (hs : 0 < s) : ∀ n, 1 ≤ n → (wrt s N (s + n)).getD n 256 = 46
  | 0, h => absurd h (by omega)
  | 1, _ => by rw [wrt, if_pos ⟨rfl, hs⟩]; simp
  | n + 2, _ => by
    rw [show s + (n + 2) = (s + (n + 1)) + 1 by omega, wrt, if_neg (by omega), List.getD_cons_succ]
    exact wpt s N hs (n + 1) (by omega)
theorem wbk (s N : Nat) (hs : 0 < s) (k : Nat) (hk : k < s) : ∀ n, 1 ≤ n → (wrt s N (s + n)).getD (n + 1 + k) 256 = 48 + N / 10 ^ (s - 1 - k) % 10
  | 0, h => absurd h (by omega)
  | 1, _ => by
    rw [wrt, if_pos ⟨rfl, hs⟩, show 1 + 1 + k = (k + 1) + 1 by omega, List.getD_cons_succ, List.getD_cons_succ]
    exact wlo s N s (Nat.le_refl _) k hk
  | n + 2, _ => by
    rw [show s + (n + 2) = (s + (n + 1)) + 1 by omega, wrt, if_neg (by omega), show n + 2 + 1 + k = (n + 1 + 1 + k) + 1 by omega, List.getD_cons_succ]
    exact wbk s N hs k hk (n + 1) (by omega)
theorem wln (s N : Nat) : ∀ n, 1 ≤ n → (wrt s N (s + n)).length = n + (if s = 0 then 0 else 1 + s)
  | 0, h => absurd h (by omega)
  | 1, _ => by
    rw [wrt]
    by_cases hs : s = 0
    · subst hs; simp [wrt]
    · rw [if_pos ⟨rfl, by omega⟩]
      simp [hs, wrt_lo s N s (Nat.le_refl _)]
      omega
  | n + 2, _ => by
    rw [show s + (n + 2) = (s + (n + 1)) + 1 by omega, wrt, if_neg (by omega), List.length_cons, wln s N (n + 1) (by omega)]
    omega
theorem wsm (s N : Nat) : ∀ k, ∀ x ∈ wrt s N k, x < 256
  | 0, x, h => by simp [wrt] at h
  | k + 1, x, h => by
    rw [wrt] at h
    have hd : 48 + N / 10 ^ k % 10 < 256 := by have := Nat.mod_lt (N / 10 ^ k) (show 10 > 0 by decide); omega
    split at h
    · simp at h
      rcases h with rfl | rfl | h
      · exact hd
      · decide
      · exact wsm s N k x h
    · simp at h
      rcases h with rfl | h
      · exact hd
      · exact wsm s N k x h
/-- the text of a decimal: h digits in front, sc behind -/
structure Txt (t : ByteArray) (neg : Bool) (i h sc N : Nat) : Prop where
  mi : (neg = true ∧ i = 1 ∧ bt t 0 = 45) ∨ (neg = false ∧ i = 0)
  sz : t.size = i + h + (if sc = 0 then 0 else 1 + sc)
  hp : 1 ≤ h
  fr : ∀ k, k < h → bt t (i + k) = 48 + N / 10 ^ (sc + h - 1 - k) % 10
  pt : 0 < sc → bt t (i + h) = 46
  bk : ∀ k, k < sc → bt t (i + h + 1 + k) = 48 + N / 10 ^ (sc - 1 - k) % 10
  top : N / 10 ^ (sc + h) = 0
  ld : h = 1 ∨ N / 10 ^ (sc + h - 1) ≠ 0
  big : N < B127
  s18 : sc ≤ 18
  s41 : t.size ≤ 41
  nz : neg = true → N ≠ 0
theorem txt_any (c : Int) (s K : Nat) (hc : InR c) (hs : s ≤ 18) (hK : Places s c.natAbs K) : Txt (tx (wtx c s K)) (decide (c < 0)) (if c < 0 then 1 else 0) (K - s) s c.natAbs := by
  have h1 := hc.lo
  have h2 := hc.hi
  rw [M127_eq] at h1 h2
  obtain ⟨n, rfl⟩ : ∃ n, K = s + n := ⟨K - s, by have := hK.lo; omega⟩
  have hn : 1 ≤ n := by have := hK.lo; omega
  have e1 : s + n - s = n := by omega
  rw [e1]
  have hln := wln s c.natAbs n hn
  have hK39 := hK.hi
  have hbig : c.natAbs < B127 := by unfold B127; omega
  have htop := hK.done
  have hld : n = 1 ∨ c.natAbs / 10 ^ (s + n - 1) ≠ 0 := by
    rcases hK.more (s + n - 1) (by omega) with h | h
    · left; omega
    · right; exact h
  have hsm := wsm s c.natAbs (s + n)
  by_cases h0 : c < 0
  · have hw : wtx c s (s + n) = 45 :: wrt s c.natAbs (s + n) := by unfold wtx; rw [if_pos h0]
    have hall : ∀ x ∈ wtx c s (s + n), x < 256 := by rw [hw]; intro x hx; simp at hx; rcases hx with rfl | hx; decide; exact hsm x hx
    have hb : ∀ k, bt (tx (wtx c s (s + n))) (1 + k) = (wrt s c.natAbs (s + n)).getD k 256 := fun k => by rw [bt_tx hall, hw, Nat.add_comm 1 k, List.getD_cons_succ]
    rw [if_pos h0]
    refine ⟨Or.inl ⟨by simp [h0], rfl, by rw [bt_tx hall, hw]; rfl⟩, ?_, hn, fun k hk => ?_, fun hp => ?_, fun k hk => ?_, htop, hld, hbig, hs, ?_, fun _ => by omega⟩
    · rw [tx_size, hw, List.length_cons, hln]; omega
    · rw [hb]; exact whi s _ n hn k hk
    · rw [hb]; exact wpt s _ hp n hn
    · rw [show 1 + n + 1 + k = 1 + (n + 1 + k) by omega, hb]; exact wbk s _ (by omega) k hk n hn
    · rw [tx_size, hw, List.length_cons, hln]; split <;> omega
  · have hw : wtx c s (s + n) = wrt s c.natAbs (s + n) := by unfold wtx; rw [if_neg h0]
    have hall : ∀ x ∈ wtx c s (s + n), x < 256 := by rw [hw]; exact hsm
    have hb : ∀ k, bt (tx (wtx c s (s + n))) (0 + k) = (wrt s c.natAbs (s + n)).getD k 256 := fun k => by rw [bt_tx hall, hw, Nat.zero_add]
    rw [if_neg h0]
    refine ⟨Or.inr ⟨by simp [h0], rfl⟩, ?_, hn, fun k hk => ?_, fun hp => ?_, fun k hk => ?_, htop, hld, hbig, hs, ?_, fun h => by simp at h; omega⟩
    · rw [tx_size, hw, hln]; omega
    · rw [hb]; exact whi s _ n hn k hk
    · rw [hb]; exact wpt s _ hp n hn
    · rw [show 0 + n + 1 + k = 0 + (n + 1 + k) by omega, hb]; exact wbk s _ (by omega) k hk n hn
    · rw [tx_size, hw, hln]; split <;> omega
end Go.Proofs.YteohncnjjgoemaaGreatDoor.dg
/- digits: fronts of texts, read. -/
namespace Go.Proofs.YteohncnjjgoemaaGreatDoor.dg
open Go.RowKit
set_option linter.unusedVariables false
set_option linter.unusedSimpArgs false

theorem nv_pow (u : ByteArray) (i M N e : Nat) : ∀ n, n ≤ e → (∀ k, k < n → dgt u (i + k) = N / 10 ^ (e - 1 - k) % 10) → nv u i M n = M * 10 ^ n + N / 10 ^ (e - n) % 10 ^ n
  | 0, _, _ => by simp [nv, Nat.mod_one]
  | n + 1, h, hd => by
    have ih := nv_pow u i M N e n (by omega) (fun k hk => hd k (by omega))
    have hx := hd n (by omega)
    rw [nv, ih, hx]
    have e1 : N / 10 ^ (e - n) = N / 10 ^ (e - (n + 1)) / 10 := by
      rw [Nat.div_div_eq_div_mul, ← Nat.pow_succ]
      congr 2
      omega
    rw [e1, show e - 1 - n = e - (n + 1) by omega]
    generalize N / 10 ^ (e - (n + 1)) = x
    rw [Nat.pow_succ, Nat.mul_comm (10 ^ n) 10, Nat.mod_mul]
    generalize x / 10 % 10 ^ n = y
    rw [show M * (10 * 10 ^ n) = 10 * (M * 10 ^ n) by rw [Nat.mul_left_comm]]
    omega
theorem low_pow {N a n : Nat} (h : N / 10 ^ (a + n) = 0) : N / 10 ^ a % 10 ^ n = N / 10 ^ a := by
  rw [Nat.pow_add, ← Nat.div_div_eq_div_mul] at h
  apply Nat.mod_eq_of_lt
  rcases Nat.lt_or_ge (N / 10 ^ a) (10 ^ n) with hl | hg
  · exact hl
  · have := Nat.div_pos hg (Nat.pow_pos (by decide : 0 < 10))
    omega
theorem put_pow (N sc m : Nat) (h : m ≤ sc) : N / 10 ^ sc * 10 ^ m + N / 10 ^ (sc - m) % 10 ^ m = N / 10 ^ (sc - m) := by
  have : N / 10 ^ sc = N / 10 ^ (sc - m) / 10 ^ m := by
    rw [Nat.div_div_eq_div_mul, ← Nat.pow_add]
    congr 2
    omega
  rw [this]
  exact Nat.div_add_mod' _ _
/-- a digit's letter -/
theorem dg_of {u : ByteArray} {k x : Nat} (h : bt u k = 48 + x % 10) : isDg u k ∧ dgt u k = x % 10 := by
  have hx := Nat.mod_lt x (show 10 > 0 by decide)
  have hk : k < u.size := bt_lt.1 (by omega)
  exact ⟨isDg_iff.2 ⟨by omega, by omega⟩, by rw [dgt_bt hk]; omega⟩
/-- the front of a text, n bytes long, and something behind it that is no digit, no minus, no point -/
structure Cut (t u : ByteArray) (n : Nat) : Prop where
  le : n ≤ t.size
  eq : ∀ k, k < n → bt u k = bt t k
  nd : ¬ isDg u n
  nm : bt u n ≠ 45
  np : bt u n ≠ 46
  s64 : u.size ≤ 64
theorem Cut.whole {t u : ByteArray} {neg : Bool} {i h sc N n m : Nat} (T : Txt t neg i h sc N) (hm : 1 ≤ m) (hmh : m ≤ h) (hq : ∀ k, k < i + m → bt u k = bt t k) (hx : ¬ isDg u (i + m)) : Whol u i (i + m) (N / 10 ^ (sc + h - m)) := by
  have hd : ∀ k, k < m → isDg u (i + k) ∧ dgt u (i + k) = N / 10 ^ (sc + h - 1 - k) % 10 := fun k hk => dg_of (by rw [hq _ (by omega)]; exact T.fr k (by omega))
  have hv : nv u i 0 m = N / 10 ^ (sc + h - m) := by
    rw [nv_pow u i 0 N (sc + h) m (by omega) (fun k hk => (hd k hk).2), Nat.zero_mul, Nat.zero_add]
    exact low_pow (by rw [show sc + h - m + m = sc + h by omega]; exact T.top)
  constructor
  by_cases h0 : bt u i = 48
  · left
    have hf := T.fr 0 (by have := T.hp; omega)
    rw [Nat.add_zero, ← hq i (by omega), h0] at hf
    have hz : N / 10 ^ (sc + h - 1) % 10 = 0 := by simpa using hf.symm
    have hlt : N / 10 ^ (sc + h - 1) % 10 ^ 1 = N / 10 ^ (sc + h - 1) := low_pow (by rw [show sc + h - 1 + 1 = sc + h by have := T.hp; omega]; exact T.top)
    rw [Nat.pow_one] at hlt
    rcases T.ld with h1 | h1
    · have hm1 : m = 1 := by omega
      subst hm1
      exact ⟨h0, rfl, by omega⟩
    · omega
  · right
    exact ⟨h0, m, hm, rfl, fun k hk => (hd k hk).1, hx, hv.symm⟩
theorem Cut.mins {t u : ByteArray} {neg : Bool} {i h sc N n : Nat} (T : Txt t neg i h sc N) (hn : 0 < n) (hq : ∀ k, k < n → bt u k = bt t k) : Mins u neg i := by
  constructor
  rcases T.mi with ⟨rfl, rfl, h1⟩ | ⟨rfl, rfl⟩
  · exact Or.inl ⟨rfl, by rw [hq 0 hn]; exact h1, rfl⟩
  · refine Or.inr ⟨rfl, ?_, rfl⟩
    have := T.fr 0 (by have := T.hp; omega)
    have hx := Nat.mod_lt (N / 10 ^ (sc + h - 1 - 0)) (show 10 > 0 by decide)
    rw [hq 0 hn]
    simp only [Nat.add_zero] at this
    omega
/-- how a front is read -/
theorem Cut.read {t u : ByteArray} {neg : Bool} {i h sc N n : Nat} (T : Txt t neg i h sc N) (C : Cut t u n) :
    (∃ ng, Mins u ng n) ∨ (i < n ∧ n ≤ i + h ∧ Mins u neg i ∧ Whol u i n (N / 10 ^ (sc + h - (n - i))) ∧ Frac u n n 0 (N / 10 ^ (sc + h - (n - i))) (N / 10 ^ (sc + h - (n - i)))) ∨ (n = i + h + 1 ∧ Mins u neg i ∧ Whol u i (i + h) (N / 10 ^ sc) ∧ bt u (i + h) = 46)
    ∨ (∃ m, 1 ≤ m ∧ m ≤ sc ∧ n = i + h + 1 + m ∧ Mins u neg i ∧ Whol u i (i + h) (N / 10 ^ sc) ∧ Frac u (i + h) n m (N / 10 ^ sc) (N / 10 ^ (sc - m))) := by
  by_cases hni : n ≤ i
  · left
    rcases Nat.eq_zero_or_pos n with rfl | hn
    · exact ⟨false, ⟨Or.inr ⟨rfl, C.nm, rfl⟩⟩⟩
    · rcases T.mi with ⟨rfl, rfl, h1⟩ | ⟨rfl, rfl⟩
      · have : n = 1 := by omega
        subst this
        exact ⟨true, Cut.mins T hn C.eq⟩
      · omega
  · right
    have hm := Cut.mins T (by omega) C.eq
    by_cases hnh : n ≤ i + h
    · left
      have hw := Cut.whole (n := n) (m := n - i) T (by omega) (by omega) (fun k hk => C.eq k (by omega)) (by rw [show i + (n - i) = n by omega]; exact C.nd)
      rw [show i + (n - i) = n by omega] at hw
      exact ⟨by omega, hnh, hm, hw, ⟨Or.inl ⟨C.np, rfl, rfl, rfl⟩⟩⟩
    · right
      have hle := C.le
      have hsz := T.sz
      have hsc : 0 < sc := by
        rcases Nat.eq_zero_or_pos sc with h0 | h0
        · rw [if_pos h0] at hsz; omega
        · exact h0
      rw [if_neg (by omega)] at hsz
      have hp : bt u (i + h) = 46 := by rw [C.eq _ (by omega)]; exact T.pt hsc
      have hw := Cut.whole (n := n) (m := h) T T.hp (Nat.le_refl _) (fun k hk => C.eq k (by omega)) (by intro hx; have := isDg_iff.1 hx; omega)
      rw [show sc + h - h = sc by omega] at hw
      by_cases hn1 : n = i + h + 1
      · left
        exact ⟨hn1, hm, hw, hp⟩
      · right
        refine ⟨n - (i + h + 1), by omega, by omega, by omega, hm, hw, ⟨Or.inr ⟨hp, by omega, by have := T.s18; omega, by omega, fun k hk => ?_, Or.inr C.nd, ?_⟩⟩⟩
        · exact (dg_of (by rw [C.eq _ (by omega)]; exact T.bk k (by omega))).1
        · rw [nv_pow u (i + h + 1) (N / 10 ^ sc) N sc (n - (i + h + 1)) (by omega) (fun k hk => (dg_of (by rw [C.eq _ (by omega)]; exact T.bk k (by omega))).2)]
          exact (put_pow N sc _ (by omega)).symm
/-- the answer at a fault -/
def PF (u : ByteArray) (k : Nat) : Prop := ∀ w, Calls Tryz.prog 20 #[.string u] w fun e w' => e = .returned (.tuple #[.agg #[.int .i64 0, .int .u64 0, .int .i64 0], .int .i64 (k : Int), .int .i64 6]) ∧ Below w.heap.size w w'
def PY (u : ByteArray) (c : Int) (sc : Nat) : Prop := ∀ w, Calls Tryz.prog 20 #[.string u] w fun e w' => e = .returned (.tuple #[.agg (dcs c sc).toArray, .int .i64 0, .int .i64 0]) ∧ Below w.heap.size w w'
theorem div_big {N k : Nat} (h : N < B127) : N / 10 ^ k < B127 := Nat.lt_of_le_of_lt (Nat.div_le_self _ _) h
theorem Cut.wrong {t u : ByteArray} {neg : Bool} {i h sc N n : Nat} (T : Txt t neg i h sc N) (C : Cut t u n) (hn : n < u.size) : PF u n := by
  intro w
  rcases C.read T with ⟨ng, hm⟩ | ⟨_, _, hm, hw, hf⟩ | ⟨rfl, hm, hw, hp⟩ | ⟨m, _, _, _, hm, hw, hf⟩
  · exact p_none hm C.s64 C.nd w
  · exact p_more hm hw hf C.s64 hn w
  · exact p_point hm hw C.s64 hp C.nd w
  · exact p_more hm hw hf C.s64 hn w
theorem Cut.front {t u : ByteArray} {neg : Bool} {i h sc N n : Nat} (T : Txt t neg i h sc N) (C : Cut t u n) (hn : n = u.size) : PF u n ∨ (∃ c s, PY u c s) ∨ (neg = true ∧ n ≠ 0 ∧ PF u 0) := by
  have key : ∀ {j V1 f s V}, Mins u neg i → Whol u i j V1 → Frac u j f s V1 V → f = u.size → V < B127 → i < n → PF u n ∨ (∃ c s, PY u c s) ∨ (neg = true ∧ n ≠ 0 ∧ PF u 0) := by
    intro j V1 f s V hm hw hf hfu hV hin
    by_cases h0 : neg = true ∧ V = 0
    · obtain ⟨rfl, rfl⟩ := h0
      exact Or.inr (Or.inr ⟨rfl, by omega, fun w => p_nought hm hw hf C.s64 hfu w⟩)
    · exact Or.inr (Or.inl ⟨_, _, fun w => p_yes hm hw hf C.s64 hfu hV (fun e e2 => h0 ⟨e, e2⟩) w⟩)
  rcases C.read T with ⟨ng, hm⟩ | ⟨hin, _, hm, hw, hf⟩ | ⟨rfl, hm, hw, hp⟩ | ⟨m, _, _, he, hm, hw, hf⟩
  · exact Or.inl fun w => p_none hm C.s64 C.nd w
  · exact key hm hw hf hn (div_big T.big) hin
  · exact Or.inl fun w => p_point hm hw C.s64 hp C.nd w
  · exact key hm hw hf hn (div_big T.big) (by omega)
theorem Txt.self {t : ByteArray} {neg : Bool} {i h sc N : Nat} (T : Txt t neg i h sc N) : Cut t t t.size := by
  have h0 : ¬ bt t t.size < 256 := fun h => Nat.lt_irrefl _ (bt_lt.1 h)
  exact ⟨Nat.le_refl _, fun k _ => rfl, fun h => by have := isDg_iff.1 h; omega, by omega, by omega, by have := T.s41; omega⟩
/-- a text is read as its number -/
theorem Txt.read {t : ByteArray} {neg : Bool} {i h sc N : Nat} (T : Txt t neg i h sc N) : PY t (sg neg N) sc := by
  intro w
  have C := T.self
  have hsz := T.sz
  have hp := T.hp
  rcases C.read T with ⟨ng, hm⟩ | ⟨hin, hih, hm, hw, hf⟩ | ⟨he, hm, hw, hp⟩ | ⟨m, h1, h2, he, hm, hw, hf⟩
  · exfalso
    have h5 := T.fr 0 (by omega)
    have h6 := Nat.mod_lt (N / 10 ^ (sc + h - 1 - 0)) (show 10 > 0 by decide)
    rw [Nat.add_zero] at h5
    have h7 : (i = 1) ∨ (i = 0) := by
      rcases T.mi with ⟨_, h3, _⟩ | ⟨_, h3⟩
      · exact Or.inl h3
      · exact Or.inr h3
    rcases hm.h with ⟨_, h4, h1⟩ | ⟨_, h4, h1⟩
    · have hi : i = 0 := by omega
      subst hi
      omega
    · omega
  · have h0 : sc = 0 := by
      rcases Nat.eq_zero_or_pos sc with h0 | h0
      · exact h0
      · rw [if_neg (by omega)] at hsz; omega
    subst h0
    have e : N / 10 ^ (0 + h - (t.size - i)) = N := by
      rw [if_pos rfl] at hsz
      rw [show 0 + h - (t.size - i) = 0 by omega, Nat.pow_zero, Nat.div_one]
    rw [e] at hw hf
    exact p_yes hm hw hf C.s64 rfl T.big T.nz w
  · have h0 : sc ≠ 0 := by intro h0; rw [if_pos h0] at hsz; omega
    rw [if_neg h0] at hsz
    omega
  · have h0 : sc ≠ 0 := by omega
    rw [if_neg h0] at hsz
    have hm' : m = sc := by omega
    subst hm'
    rw [Nat.sub_self, Nat.pow_zero, Nat.div_one] at hf
    exact p_yes hm hw hf C.s64 rfl T.big T.nz w
/-- a nought too many -/
theorem p_lead {u : ByteArray} {neg : Bool} {i : Nat} (hm : Mins u neg i) (hs : u.size ≤ 64) (h0 : bt u i = 48) (h1 : isDg u (i + 1)) : PF u (i + 1) := by
  intro w
  have hb := isDg_iff.1 h1
  have hw : Whol u i (i + 1) 0 := ⟨Or.inl ⟨h0, rfl, rfl⟩⟩
  have hf : Frac u (i + 1) (i + 1) 0 0 0 := ⟨Or.inl ⟨by omega, rfl, rfl, rfl⟩⟩
  exact p_more hm hw hf hs (bt_lt.1 (by omega)) w
end Go.Proofs.YteohncnjjgoemaaGreatDoor.dg
