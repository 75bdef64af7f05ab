/- log XXIX: LogFull's walk. -/
import Derived.Test.YtkmdegmpffgplaaGreatDoorLbm
import Derived.Test.YtkmdegmpffgplaaGreatDoorLal
namespace Go.Proofs.YtkmdegmpffgplaaGreatDoor
open Go.RowKit Go.Maps Go.Sort Go.Shelf pk
set_option linter.unusedVariables false
set_option linter.unusedSimpArgs false
theorem set0_cl (L x : Nat) (h : 0 < L) : (cl (List.replicate L 0)).set 0 (.int .u8 (x : Int)) = cl (x :: List.replicate (L - 1) 0) := by
  obtain ⟨k, rfl⟩ : ∃ k, L = k + 1 := ⟨L - 1, by omega⟩
  rfl
set_option maxRecDepth 100000 in
set_option maxHeartbeats 8000000 in
theorem logFull_walk (w : World) (hT : Pt10 w) (hTb : Tb w) (r : Nat) (hr : r < 256) (sa : Option Addr) (sn sc : Nat) (us : List Nat) (hs : Sl KH w (.slice sa sn sc) us) (hu : ∀ u ∈ us, u < 65536) :
    Calls Tryz.prog 4 #[.int .u8 (r : Int), .slice sa sn sc] w fun e w' => e = .returned (.bool true) ∧ Below w.heap.size w w' := by
  have HT : Hid (Pt10 w ∧ Tb w) := ⟨hT, hTb⟩
  have HSU : Hid (Sl KH w (.slice sa sn sc) us) := hs
  have HU : Hid (∀ u ∈ us, u < 65536) := hu
  obtain ⟨hsn, hsc⟩ : sn = us.length ∧ sn ≤ sc ∧ sc ≤ 9223372036854775807 := by
    obtain ⟨_, _, e, h1, h2, _⟩ := hs
    cases e
    exact ⟨rfl, h1, h2⟩
  obtain ⟨N, hN⟩ : ∃ N, N = us.length := ⟨_, rfl⟩
  have HN : Hid (N = us.length) := hN
  have hNN : N ≤ 9223372036854775807 := by omega
  rw [hsn, ← hN]
  obtain ⟨n, hn⟩ : ∃ n : Nat, 2 + (r : Int) % 60 = (n : Int) := ⟨2 + r % 60, by omega⟩
  have hn1 : 2 ≤ n ∧ n ≤ 61 := by omega
  clear hT hTb hs hu hsn hN
  go_enter Tryz.func4, Tryz.ntmps4
  go_wp2_with fail
  refine (awake_ok w HT.out.1 HT.out.2 HT.out.2.lt).mono ?_
  rintro e w1 ⟨rfl, b1⟩
  have HB1 := (show Hid _ from b1)
  clear b1
  go_wp2_with fail
  refine (new_any n w1 (by omega) (by omega)).mono ?_
  rintro e w2 ⟨p, m, rfl, h2, b2⟩
  have HB2 : Hid (Below w.heap.size w w2) := HB1.out.trans (b2.mono HB1.out.size)
  have HBz : Hid (w.heap.size ≤ w1.heap.size) := HB1.out.size
  have HPT : Hid (PtB w1.heap.size w2 ∧ TbB w1.heap.size w2) := ⟨(ptB_of (HT.out.1.on HB1.out)).on b2, (tbB_of (HT.out.2.step HB1.out HT.out.2.lt) (Nat.le_trans HT.out.2.lt HB1.out.size)).on b2⟩
  have HD2 : Hid (Dst w2 w1.heap.size p m n 0 [] 3 0 []) := dst_new h2 HPT.out.1 HPT.out.2 3 (by omega)
  clear h2 b2
  unfold ptr
  generalize w1.heap.size = B at *
  go_wp2_with fail
  refine (open_st w2 B p m n 0 [] 3 0 [] HD2.out (by simp)).mono ?_
  rintro e w3 ⟨lp, u, hlp, rfl, hg, hp, b3⟩
  have HB3 : Hid (Below w2.heap.size w2 w3) := b3
  have HLP : Hid (B ≤ lp) := Nat.le_trans HD2.out.da.lt hlp
  have HG3 : Hid (Lg w3 lp p (gst 3 0 [] (List.replicate 32 0))) := hg
  have HD3 : Hid (Dst w3 B p m n 0 [] 3 0 []) := HD2.out.step b3
  clear hlp hg hp b3
  go_wp2_with fail
  go_loopw [11, 12, 47] (fun used want i wr => ∃ (k ud o : Nat) (fs : FS) (rs : List Rc), k ≤ N ∧ k ≤ 60 ∧ i = .int .i64 (k : Int) ∧ used = .int .i64 (ud : Int) ∧ ud ≤ n ∧ Hid (Dst wr B p m n o fs 3 0 rs) ∧ Hid (Lg wr lp p (gst 3 0 rs (List.replicate 32 0))) ∧ Hid (totA fs = ud ∧ fs.length ≤ k ∧ rs.length ≤ k ∧ o ≤ 2 * k) ∧ Hid (Pay wr B want (rs.map (·.1))) ∧ Hid (Below B w2 wr)) (fun _ _ i _ => N - (intOf i).toNat)
  case atStart => exact ⟨0, 0, 0, [], [], Nat.zero_le _, by omega, rfl, rfl, Nat.zero_le _, HD3.out, HG3.out, ⟨rfl, Nat.le_refl _, Nat.le_refl _, by omega⟩, pay_nil _ _, HB3.out.mono HD2.out.da.lt⟩
  case round =>
    clear HG3 HD3
    obtain ⟨k, ud, o, fs, rs, hkN, hk60, rfl, rfl, hud, HD, HG, HS, HP, HBW⟩ := hrel
    by_cases hlt : k < N
    rotate_left
    · have dk : (N : Int) ≤ (k : Int) := by omega
      go_wp2_with fail
      refine (open_st wr B p m n o fs 3 0 rs HD.out (by have := HS.out; omega)).mono ?_
      rintro e w7 ⟨l2, v, hlp2, rfl, hg2, hp2, b7⟩
      obtain ⟨t1, et1, hr1⟩ := hp2.rws
      obtain ⟨t2, et2, hr2⟩ := (HP.out.step b7).rws
      have HSA := (show Hid _ from fun (_ : Unit) => sameL_ok w7 v u12 t1 t2 hr1 hr2 (et1.trans et2.symm))
      have HB7 : Hid (Below B w2 w7) := HBW.out.trans (b7.mono (Nat.le_trans HD2.out.da.lt HBW.out.size))
      clear hlp2 hg2 hp2 b7 et1 hr1 et2 hr2 HD HG HS HP HBW
      go_wp2_with fail
      refine Calls.mono (HSA.out ()) ?_
      rintro e w8 ⟨rfl, b8⟩
      have HB8 : Hid (Below B w2 w8) := HB7.out.trans (b8.mono (Nat.le_trans HD2.out.da.lt HB7.out.size))
      clear b8 HB7 HSA
      go_wp2_with fail
      go_ret
      exact ⟨rfl, HB2.out.trans (HB8.out.mono HBz.out)⟩
    have dk : (k : Int) < (N : Int) := by omega
    by_cases h60 : k < 60
    rotate_left
    · have d60 : (60 : Int) ≤ (k : Int) := by omega
      obtain ⟨uk, huk⟩ : ∃ x, us[k]? = some x := ⟨_, List.getElem?_eq_getElem (by rw [← HN.out]; exact hlt)⟩
      obtain ⟨sb, so, rfl, hsb, hsc2⟩ := HSU.out.at k uk huk
      have yk0 : w.cell? ⟨sb, so + k, none⟩ = some (.int .u16 (uk : Int)) := by
        have h1 := hsc2 0 (.int .u16 (uk : Int)) rfl
        rw [show k * KH.k = k from Nat.mul_one k, Nat.add_zero] at h1
        exact h1
      have yk : wr.cell? ⟨sb, so + k, none⟩ = some (.int .u16 (uk : Int)) := ((HB2.out.trans (HBW.out.mono HBz.out)).cell (p := ⟨sb, so + k, none⟩) hsb).trans yk0
      clear yk0 hsc2
      go_wp2_with fail
      refine (open_st wr B p m n o fs 3 0 rs HD.out (by have := HS.out; omega)).mono ?_
      rintro e w7 ⟨l2, v, hlp2, rfl, hg2, hp2, b7⟩
      obtain ⟨t1, et1, hr1⟩ := hp2.rws
      obtain ⟨t2, et2, hr2⟩ := (HP.out.step b7).rws
      have HSA := (show Hid _ from fun (_ : Unit) => sameL_ok w7 v u12 t1 t2 hr1 hr2 (et1.trans et2.symm))
      have HB7 : Hid (Below B w2 w7) := HBW.out.trans (b7.mono (Nat.le_trans HD2.out.da.lt HBW.out.size))
      clear hlp2 hg2 hp2 b7 et1 hr1 et2 hr2 HD HG HS HP HBW
      go_wp2_with fail
      refine Calls.mono (HSA.out ()) ?_
      rintro e w8 ⟨rfl, b8⟩
      have HB8 : Hid (Below B w2 w8) := HB7.out.trans (b8.mono (Nat.le_trans HD2.out.da.lt HB7.out.size))
      clear b8 HB7 HSA
      go_wp2_with fail
      go_ret
      exact ⟨rfl, HB2.out.trans (HB8.out.mono HBz.out)⟩
    have d60 : (k : Int) < 60 := by omega
    obtain ⟨uk, huk⟩ : ∃ x, us[k]? = some x := ⟨_, List.getElem?_eq_getElem (by rw [← HN.out]; exact hlt)⟩
    have hukb : uk < 65536 := HU.out uk (List.mem_of_getElem? huk)
    obtain ⟨sb, so, rfl, hsb, hsc2⟩ := HSU.out.at k uk huk
    have yk0 : w.cell? ⟨sb, so + k, none⟩ = some (.int .u16 (uk : Int)) := by
      have h1 := hsc2 0 (.int .u16 (uk : Int)) rfl
      rw [show k * KH.k = k from Nat.mul_one k, Nat.add_zero] at h1
      exact h1
    have HWR : Hid (Below w.heap.size w wr) := HB2.out.trans (HBW.out.mono HBz.out)
    have yk : wr.cell? ⟨sb, so + k, none⟩ = some (.int .u16 (uk : Int)) := (HWR.out.cell (p := ⟨sb, so + k, none⟩) hsb).trans yk0
    clear yk0 hsc2
    obtain ⟨L, hL⟩ : ∃ L : Nat, 1 + (uk : Int) % 400 = (L : Int) := ⟨1 + uk % 400, by omega⟩
    have hL1 : 1 ≤ L ∧ L ≤ 400 := by omega
    have hmk : (Instr.makeSlice 22 (.int .i64 (L : Int)) (.int .i64 (L : Int))).run Tryz.prog wr = .ok (.slice (some ⟨wr.heap.size, 0, none⟩) L L) (wr.alloc (.cells (cl (List.replicate L 0)).toArray 5)) := mk_by L (by omega) wr
    obtain ⟨q, hq⟩ : ∃ q, q = wr.heap.size := ⟨_, rfl⟩
    have HQ : Hid (q = wr.heap.size) := hq
    go_upto_region 15 with fail
    have HVQ : Hid (VA (wr.alloc (.cells (cl (List.replicate L 0)).toArray 5)) q (cl (List.replicate L 0)) 5) := (show VA _ _ _ _ from by rw [hq]; exact va_new wr _ _)
    have bA : Below wr.heap.size wr (wr.alloc (.cells (cl (List.replicate L 0)).toArray 5)) := (Below.refl _ _).alloc (Nat.le_refl _) _
    have HA := (show Hid _ from bA)
    rw [← hq]
    clear hq bA hmk yk
    generalize wr.alloc (.cells (cl (List.replicate L 0)).toArray 5) = w4 at *
    have y0 := HVQ.out.cell 0 (v := .int .u8 0) (by obtain ⟨z, rfl⟩ : ∃ z, L = z + 1 := ⟨L - 1, by omega⟩; rfl)
    have f0 := HVQ.out.free 0
    go_upto_region 16 with fail
    have HV5 : Hid (VA (w4.setCell ⟨q, 0, none⟩ (.int .u8 (k : Int))) q (cl (k :: List.replicate (L - 1) 0)) 5) := (show VA _ _ _ _ from by
      rw [← set0_cl L k (by omega)]
      exact HVQ.out.set 0 _)
    have HB5 : Hid (Below wr.heap.size wr (w4.setCell ⟨q, 0, none⟩ (.int .u8 (k : Int)))) := HA.out.setCell (show wr.heap.size ≤ q by rw [HQ.out]; exact Nat.le_refl _) _
    clear y0 f0 HVQ HA
    generalize w4.setCell ⟨q, 0, none⟩ (.int .u8 (k : Int)) = w5 at *
    obtain ⟨ps, hps⟩ : ∃ ps, ps = k :: List.replicate (L - 1) 0 := ⟨_, rfl⟩
    rw [← hps] at HV5
    have hpl : ps.length = L := by rw [hps, List.length_cons, List.length_replicate]; omega
    have HBS : Hid (Bs w5 (.slice (some ⟨q, 0, none⟩) L L) ps ∧ SafeU w5 (.slice (some ⟨q, 0, none⟩) L L)) := (show _ ∧ _ from by
      have hby : By ps := by
        rw [hps]
        intro x hx
        rcases List.mem_cons.1 hx with e | e
        · omega
        · rw [List.eq_of_mem_replicate e]; omega
      refine ⟨?_, fun b off n' c' e => by cases e; exact ⟨_, _, HV5.out.blk⟩⟩
      have h1 := bs_va (c := L) HV5.out hby (by omega) (by omega)
      rw [hpl] at h1
      exact h1)
    have HPL : Hid (ps.length = L) := hpl
    clear hps hpl
    have HD5 : Hid (Dst w5 B p m n o fs 3 0 rs) := HD.out.step HB5.out
    have HG5 : Hid (Lg w5 lp p (gst 3 0 rs (List.replicate 32 0))) := HG.out.step HB5.out
    have HP5 : Hid (Pay w5 B u12 (rs.map (·.1))) := HP.out.step HB5.out
    have HBW5 : Hid (Below B w2 w5) := HBW.out.trans (HB5.out.mono HD.out.da.lt)
    clear HD HG HP HBW HB5 HV5
    obtain ⟨c, hc⟩ : ∃ c : Nat, ((L : Int) + 36 + 23) / 24 = (c : Int) := ⟨(L + 59) / 24, by omega⟩
    have HC : Hid (cn4 (L + 36) = c) := (show cn4 (L + 36) = c from by unfold cn4; omega)
    have hc2 : c ≤ 30 := by omega
    go_wp2_with fail
    by_cases hroom : ud + c ≤ n
    · have hR : room n fs 3 0 rs ps = true := by
        rw [room_iff (by have := HS.out; omega), HPL.out, HC.out]
        exact decide_eq_true (by have := HS.out; omega)
      refine (append_st w5 B p m n o fs 3 0 lp rs (List.replicate 32 0) HD5.out HG5.out l0_ok HLP.out _ ps HBS.out.1 HBS.out.2.l (by rw [HPL.out]; omega) (by rw [HPL.out]; omega) (by have := HS.out; omega) (by have := HS.out; omega) hR).mono ?_
      rintro e w6 ⟨rfl, hd, hl, hk, hb⟩
      have HD6 := (show Hid _ from hd)
      have HG6 := (show Hid _ from hl)
      have HP6 : Hid (Pay w6 B u12 (rs.map (·.1))) := HP5.out.kl hk
      have HBS6 : Hid (Bs w6 (.slice (some ⟨q, 0, none⟩) L L) ps ∧ SafeU w6 (.slice (some ⟨q, 0, none⟩) L L)) := ⟨HBS.out.1.kel HBS.out.2.l hk, HBS.out.2.kel hk⟩
      have HBW6 : Hid (Below B w2 w6) := HBW5.out.trans hb
      have dr : ¬ (n : Int) < (ud : Int) + (c : Int) := by omega
      obtain ⟨num, hnum⟩ : ∃ z, z = 0 * 3 + 1 + rs.length := ⟨_, rfl⟩
      rw [← hnum]
      clear hd hl hk hb hR HD5 HG5 HP5 HBS HBW5 hnum
      have HSZ : Hid (B ≤ w6.heap.size) := HD6.out.da.lt
      have HLR : Hid ((rs.map (·.1)).length ≤ 1000000) := (show (rs.map (·.1)).length ≤ 1000000 from by rw [List.length_map]; have := HS.out; omega)
      go_upto_region 24 with (at_builtin; refine appWant (by rfl) _ _ rfl B (rs.map (·.1)) u12 (some ⟨q, 0, none⟩) L L ps (by rfl) (by rfl) HP6.out HBS6.out.1 HBS6.out.2 HSZ.out HLR.out ?_; intro v7 w7 hp7 hb7 hk7 hs7)
      have HP7 : Hid (Pay w7 B v7 ((rs ++ [mkR 3 0 rs (List.replicate 32 0) ps]).map (·.1))) := (show Pay _ _ _ _ from by
        rw [List.map_append, List.map_singleton, show (mkR 3 0 rs (List.replicate 32 0) ps).1 = ps by simp only [mkR]]
        exact hp7)
      have HD7 := (show Hid _ from HD6.out.kep hk7 hb7)
      have HG7 : Hid (Lg w7 lp p (gst 3 0 (rs ++ [mkR 3 0 rs (List.replicate 32 0) ps]) (List.replicate 32 0))) := Lg.kep HG6.out hk7
      have HBW7 : Hid (Below B w2 w7) := HBW6.out.trans hb7
      obtain ⟨ru, hru⟩ : ∃ x, x = mkR 3 0 rs (List.replicate 32 0) ps := ⟨_, rfl⟩
      rw [← hru] at HP7 HD7 HG7
      have HS7 : Hid (totA (afs fs 3 0 rs ru) = ud + c ∧ (afs fs 3 0 rs ru).length ≤ k + 1 ∧ (rs ++ [ru]).length ≤ k + 1 ∧ o + 1 + 1 ≤ 2 * (k + 1)) := (show _ ∧ _ ∧ _ ∧ _ from by
        have h1 := tot_afs_eq fs 3 0 rs ru (by rw [hru, mkR_2]; exact chn_len _ _)
        rw [show ru.1 = ps by rw [hru]; simp only [mkR], HPL.out, HC.out] at h1
        have h2 := len_afs fs 3 0 rs ru
        have h3 := HS.out
        refine ⟨by omega, by omega, by rw [List.length_append, List.length_singleton]; omega, by omega⟩)
      clear hp7 hb7 hk7 hs7 HP6 HD6 HG6 HBW6 HBS6 hru
      go_wp2_with fail
      go_roundw
      case rel => exact ⟨k + 1, ud + c, o + 1 + 1, afs fs 3 0 rs ru, rs ++ [ru], by omega, by omega, by go_num, by go_num, hroom, HD7.out, HG7.out, HS7.out, HP7.out, HBW7.out⟩
      case measure => simp [intOf]; omega
    · have hR : room n fs 3 0 rs ps = false := by
        rw [room_iff (by have := HS.out; omega), HPL.out, HC.out]
        exact decide_eq_false (by have := HS.out; omega)
      refine (append_st_full w5 B p m n o fs 3 0 lp rs (List.replicate 32 0) HD5.out HG5.out l0_ok HLP.out _ ps HBS.out.1 HBS.out.2.l (by rw [HPL.out]; omega) (by rw [HPL.out]; omega) (by have := HS.out; omega) (by have := HS.out; omega) hR).mono ?_
      rintro e w6 ⟨rfl, hd, hl, hk, hb⟩
      have HD6 := (show Hid _ from hd)
      have HG6 := (show Hid _ from hl)
      have HP6 : Hid (Pay w6 B u12 (rs.map (·.1))) := HP5.out.kl hk
      have HBW6 : Hid (Below B w2 w6) := HBW5.out.trans hb
      have dr : (n : Int) < (ud : Int) + (c : Int) := by omega
      clear hd hl hk hb hR HD5 HG5 HP5 HBS HBW5
      go_wp2_with fail
      go_roundw
      case rel => exact ⟨k + 1, ud, o, fs, rs, by omega, by omega, by go_num, rfl, hud, HD6.out, HG6.out, ⟨HS.out.1, by have := HS.out; omega, by have := HS.out; omega, by have := HS.out; omega⟩, HP6.out, HBW6.out⟩
      case measure => simp [intOf]; omega
end Go.Proofs.YtkmdegmpffgplaaGreatDoor
