/- log XXX: LogPruned's walk. -/
import Derived.Test.YtkmdegmpffgplaaGreatDoorLbm
namespace Go.Proofs.YtkmdegmpffgplaaGreatDoor
open Go.RowKit Go.Maps Go.Sort Go.Shelf pk
set_option linter.unusedVariables false
set_option linter.unusedSimpArgs false
theorem Pay.at {w : World} {B : Nat} {va : Option Addr} {n c : Nat} {ps : List (List Nat)} (h : Pay w B (.slice va n c) ps) (j : Nat) (q : List Nat) (hq : ps[j]? = some q) : ∃ b o ta tc, va = some ⟨b, o, none⟩ ∧ w.cell? ⟨b, o + j, none⟩ = some (.slice ta q.length tc) ∧ Bs w (.slice ta q.length tc) q := by
  obtain ⟨ts, h1, h2, h3⟩ := h.ex
  rw [← h1, List.getElem?_map] at hq
  cases ht : ts[j]? with
  | none => rw [ht] at hq; cases hq
  | some t =>
    rw [ht] at hq
    cases hq
    obtain ⟨b, o, e, _, hc⟩ := h2.sl.at j t ht
    have h4 := hc 0 (.slice t.a t.bs.length t.c) rfl
    rw [show j * KT.k = j from Nat.mul_one j, Nat.add_zero] at h4
    exact ⟨b, o, t.a, t.c, e, h4, (h3 t (List.mem_of_getElem? ht)).1⟩
set_option maxRecDepth 100000 in
set_option maxHeartbeats 8000000 in
theorem logPruned_walk (w : World) (hT : Pt10 w) (hTb : Tb w) (r c : Nat) (hr : r < 256) (hc : c < 256) (sa : Option Addr) (sn sc : Nat) (zs : List Int) (hs : Sl KZ w (.slice sa sn sc) zs) (hz : ∀ u ∈ zs, -9223372036854775808 ≤ u ∧ u ≤ 9223372036854775807) :
    Calls Tryz.prog 5 #[.int .u8 (r : Int), .int .u8 (c : Int), .slice sa sn sc] w fun e w' => e = .returned (.bool true) ∧ Below w.heap.size w w' := by
  have HT : Hid (Pt10 w ∧ Tb w) := ⟨hT, hTb⟩
  have HSU : Hid (Sl KZ w (.slice sa sn sc) zs) := hs
  have HZ : Hid (∀ u ∈ zs, -9223372036854775808 ≤ u ∧ u ≤ 9223372036854775807) := hz
  obtain ⟨hsn, hsc⟩ : sn = zs.length ∧ sn ≤ sc ∧ sc ≤ 9223372036854775807 := by
    obtain ⟨_, _, e, h1, h2, _⟩ := hs
    cases e
    exact ⟨rfl, h1, h2⟩
  obtain ⟨N, hN⟩ : ∃ N, N = zs.length := ⟨_, rfl⟩
  have HN : Hid (N = zs.length) := hN
  have hNN : N ≤ 9223372036854775807 := by omega
  rw [hsn, ← hN]
  obtain ⟨K, hK⟩ : ∃ n : Nat, 1 + (r : Int) % 5 = (n : Int) := ⟨1 + r % 5, by omega⟩
  have hK1 : 1 ≤ K ∧ K ≤ 5 := by omega
  obtain ⟨N1, hN1⟩ : ∃ n : Nat, (c : Int) % 30 = (n : Int) := ⟨c % 30, by omega⟩
  have hN2 : N1 ≤ 29 := by omega
  clear hT hTb hs hz hsn hN
  go_enter Tryz.func5, Tryz.ntmps5
  go_wp2_with fail
  refine (awake_ok w HT.out.1 HT.out.2 HT.out.2.lt).mono ?_
  rintro e w1 ⟨rfl, b1⟩
  have HB1 := (show Hid _ from b1)
  clear b1
  go_wp2_with fail
  refine (new_any 2000 w1 (by omega) (by omega)).mono ?_
  rintro e w2 ⟨p, m, rfl, h2, b2⟩
  have HB2 : Hid (Below w.heap.size w w2) := HB1.out.trans (b2.mono HB1.out.size)
  have HBz : Hid (w.heap.size ≤ w1.heap.size) := HB1.out.size
  have HPT : Hid (PtB w1.heap.size w2 ∧ TbB w1.heap.size w2) := ⟨(ptB_of (HT.out.1.on HB1.out)).on b2, (tbB_of (HT.out.2.step HB1.out HT.out.2.lt) (Nat.le_trans HT.out.2.lt HB1.out.size)).on b2⟩
  have HD2 : Hid (Dst w2 w1.heap.size p m 2000 0 [] K 0 []) := dst_new h2 HPT.out.1 HPT.out.2 K (by omega)
  clear h2 b2
  unfold ptr
  generalize w1.heap.size = B at *
  go_wp2_with fail
  refine (open_st w2 B p m 2000 0 [] K 0 [] HD2.out (by simp)).mono ?_
  rintro e w3 ⟨lp, u, hlp, rfl, hg, hp, b3⟩
  have HB3 : Hid (Below w2.heap.size w2 w3) := b3
  have HLP : Hid (B ≤ lp) := Nat.le_trans HD2.out.da.lt hlp
  have HG3 : Hid (Lg w3 lp p (gst K 0 [] (List.replicate 32 0))) := hg
  have HD3 : Hid (Dst w3 B p m 2000 0 [] K 0 []) := HD2.out.step b3
  clear hlp hg hp b3
  go_wp2_with fail
  rw [hN1]
  have HN1 := (show Hid _ from hN1)
  clear hN1
  go_loopw [52] (fun i wr => ∃ (k o : Nat) (fs : FS) (rs : List Rc), k ≤ N1 ∧ i = .int .i64 (k : Int) ∧ Hid (Dst wr B p m 2000 o fs K 0 rs) ∧ Hid (Lg wr lp p (gst K 0 rs (List.replicate 32 0))) ∧ Hid (totA fs ≤ 2 * k ∧ fs.length ≤ k ∧ rs.length = k ∧ o ≤ 2 * k ∧ rs.map (·.1) = (List.range k).map (fun i => [i + 1])) ∧ Hid (Below B w2 wr)) (fun i _ => N1 - (intOf i).toNat)
  case atStart => exact ⟨0, 0, [], [], Nat.zero_le _, rfl, HD3.out, HG3.out, ⟨Nat.le_refl _, Nat.le_refl _, rfl, Nat.le_refl _, rfl⟩, HB3.out.mono HD2.out.da.lt⟩
  case round =>
    clear HG3 HD3
    obtain ⟨k, o, fs, rs, hkN, rfl, HD, HG, HS, HBW⟩ := hrel
    by_cases hlt : k < N1
    · have dk : (k : Int) < (N1 : Int) := by omega
      have hk29 : k ≤ 29 := by omega
      obtain ⟨z, hz⟩ : ∃ z : Nat, (k : Int) + 1 = (z : Int) := ⟨k + 1, by omega⟩
      have HZK : Hid (z = k + 1) := (show z = k + 1 by omega)
      have hz30 : 1 ≤ z ∧ z ≤ 30 := by omega
      obtain ⟨q, hq⟩ : ∃ q, q = wr.heap.size := ⟨_, rfl⟩
      go_wp2_with fail
      have HVQ : Hid (VA (wr.alloc (.cells #[.int .u8 (z : Int)] 5)) wr.heap.size (cl [z]) 5) := (show VA _ _ _ _ from va_new wr [.int .u8 (z : Int)] _)
      have bA : Below wr.heap.size wr (wr.alloc (.cells #[.int .u8 (z : Int)] 5)) := (Below.refl _ _).alloc (Nat.le_refl _) _
      have hbs := bs_va (c := 1) HVQ.out (fun x hx => by have e : x = z := (by simpa using hx); omega) (by simp) (by omega)
      have hsf : SafeU (wr.alloc (.cells #[.int .u8 (z : Int)] 5)) (.slice (some ⟨wr.heap.size, 0, none⟩) 1 1) := fun b off n' c' e => by cases e; exact ⟨_, _, HVQ.out.blk⟩
      refine (append_st _ B p m 2000 o fs K 0 lp rs (List.replicate 32 0) (HD.out.step bA) (HG.out.step bA) l0_ok HLP.out _ [z] hbs hsf.l (by simp) (by simp) (by have := HS.out; omega) (by have := HS.out; omega) (room_of (by have := HS.out; omega) (by have := HS.out; have e : cn4 ([z].length + 36) = 2 := (by simp [cn4]); omega))).mono ?_
      rintro e w6 ⟨rfl, hd, hl, hk, hb⟩
      have HBW6 : Hid (Below B w2 w6) := HBW.out.trans ((bA.mono HD.out.da.lt).trans hb)
      obtain ⟨ru, hru⟩ : ∃ x, x = mkR K 0 rs (List.replicate 32 0) [z] := ⟨_, rfl⟩
      rw [← hru] at hd hl
      have hr1 : ru.1 = [z] := by rw [hru]; simp only [mkR]
      have hr2 : ru.2.length = 32 := by rw [hru, mkR_2]; exact chn_len _ _
      have HS6 : Hid (totA (afs fs K 0 rs ru) ≤ 2 * (k + 1) ∧ (afs fs K 0 rs ru).length ≤ k + 1 ∧ (rs ++ [ru]).length = k + 1 ∧ o + 1 + 1 ≤ 2 * (k + 1) ∧ (rs ++ [ru]).map (·.1) = (List.range (k + 1)).map (fun i => [i + 1])) := (show _ ∧ _ ∧ _ ∧ _ ∧ _ from by
        have h1 := tot_afs_eq fs K 0 rs ru hr2
        rw [show cn4 (ru.1.length + 36) = 2 by rw [hr1]; simp [cn4]] at h1
        have h2 := len_afs fs K 0 rs ru
        have h3 := HS.out
        refine ⟨by omega, by omega, by rw [List.length_append, List.length_singleton]; omega, by omega, ?_⟩
        rw [List.map_append, List.map_singleton, h3.2.2.2.2, hr1, List.range_succ, List.map_append, List.map_singleton, HZK.out])
      have HD6 := (show Hid _ from hd)
      have HG6 := (show Hid _ from hl)
      obtain ⟨num, hnum⟩ : ∃ z, z = 0 * K + 1 + rs.length := ⟨_, rfl⟩
      rw [← hnum]
      clear hd hl hk hb hbs hsf bA HVQ hru hr1 hr2 HD HG hq hnum
      go_wp2_with fail
      go_roundw
      case rel => exact ⟨k + 1, o + 1 + 1, afs fs K 0 rs ru, rs ++ [ru], by omega, by go_num, HD6.out, HG6.out, HS6.out, HBW6.out⟩
      case measure => simp [intOf]; omega
    · have dk : (N1 : Int) ≤ (k : Int) := by omega
      obtain rfl : N1 = k := by omega
      have HRS : Hid (rs.length = N1 ∧ rs.map (·.1) = (List.range N1).map (fun i => [i + 1]) ∧ N1 ≤ 29) := ⟨HS.out.2.2.1, HS.out.2.2.2.2, hN2⟩
      have HD9 := (show Hid _ from HD.out)
      have HS9 : Hid (fs.length ≤ 30 ∧ o ≤ 60) := ⟨by have := HS.out; omega, by have := HS.out; omega⟩
      clear HS dk hlt hkN HD
      go_wp2_with fail
      rename World => w5
      obtain ⟨nI, hnI⟩ : ∃ nI : Int, (N1 : Int) = nI := ⟨_, rfl⟩
      rw [hnI]
      have HNI : Hid ((N1 : Int) = nI) := hnI
      have hnIb : 0 ≤ nI ∧ nI ≤ 29 := by omega
      clear hnI
      go_loopw [17, 69] (fun first i wr => ∃ (j d o F0 : Nat) (fs : FS), j ≤ N ∧ j ≤ 10 ∧ i = .int .i64 (j : Int) ∧ first = .int .i64 (F0 : Int) ∧ Hid (F0 = d * K + 1) ∧ Hid (Dst wr B p m 2000 o fs K d (rs.drop (d * K))) ∧ Hid (Lg wr lp p (gst K d (rs.drop (d * K)) (List.replicate 32 0))) ∧ Hid (fs.length ≤ 30 ∧ o ≤ 60 + d ∧ d ≤ 30 ∧ d * K ≤ N1 ∧ (d = 0 ∨ d * K < N1)) ∧ Hid (Below B w2 wr)) (fun _ i _ => N - (intOf i).toNat)
      case atStart => exact ⟨0, 0, o, 1, fs, Nat.zero_le _, by omega, rfl, rfl, (by show 1 = 0 * K + 1; omega), by rw [Nat.zero_mul, List.drop_zero]; exact HD9.out, by rw [Nat.zero_mul, List.drop_zero]; exact HG.out, ⟨HS9.out.1, HS9.out.2, by omega, by omega, Or.inl rfl⟩, HBW.out⟩
      case round =>
        clear HD9 HG HS9 HBW
        obtain ⟨j, d, o, F0, fs, hjN, hj10, rfl, rfl, HF0, HD, HG, HS, HBW⟩ := hrel
        have hF0s : F0 ≤ 40 := by have := HF0.out; have := HS.out; have := HRS.out; omega
        by_cases hlt : j < N
        rotate_left
        · have dk : (N : Int) ≤ (j : Int) := by omega
          go_wp2_with fail
          refine (open_st wr B p m 2000 o fs K d (rs.drop (d * K)) HD.out (by have := HS.out; omega)).mono ?_
          rintro e w7 ⟨l2, v, hlp2, rfl, hg2, hp2, b7⟩
          have hlen : ((rs.drop (d * K)).map (·.1)).length = N1 - d * K := by rw [List.length_map, List.length_drop, HRS.out.1]
          obtain ⟨va, vc, hv, hvc⟩ := hp2.slice
          rw [hlen] at hv hvc
          obtain ⟨G, hG⟩ : ∃ G, G = N1 - d * K := ⟨_, rfl⟩
          rw [← hG] at hv hvc
          subst hv
          obtain ⟨X9, hX9⟩ : ∃ X : Nat, nI + 1 = (X : Int) := ⟨N1 + 1, by have := HNI.out; omega⟩
          have HFI := (show Hid _ from fun (_ : Unit) => first_ok w7 l2 p _ hg2 ⟨by rw [gst_per]; omega, by rw [gst_low]; have := HS.out; omega, by show d + _ / K ≤ _; have h1 := Nat.div_le_self ((rs.drop (d * K)).length - 1) K; rw [List.length_drop, HRS.out.1] at h1 ⊢; have := HS.out; omega, by rw [gst_next, List.length_drop, HRS.out.1]; have := HS.out; omega⟩)
          have HNX := (show Hid _ from fun (_ : Unit) => next_ok w7 l2 p _ hg2)
          rw [gst_low, gst_per, ← HF0.out] at HFI
          rw [gst_next, show d * K + 1 + (rs.drop (d * K)).length = X9 by rw [List.length_drop, HRS.out.1]; have := HS.out; have := HNI.out; omega] at HNX
          have HGOT : Hid (∀ j, j < G → ∃ b off ta tc bb bo, va = some ⟨b, off, none⟩ ∧ ta = some ⟨bb, bo, none⟩ ∧ w7.cell? ⟨b, off + j, none⟩ = some (.slice ta 1 tc) ∧ w7.cell? ⟨bb, bo, none⟩ = some (.int .u8 ((d * K + 1 + j : Nat) : Int))) := fun j hj => by
            have hq : ((rs.drop (d * K)).map (·.1))[j]? = some [d * K + 1 + j] := by
              rw [List.map_drop, HRS.out.2.1, List.getElem?_drop, List.getElem?_map, List.getElem?_range (by omega)]
              show some [d * K + j + 1] = some [d * K + 1 + j]
              rw [show d * K + j + 1 = d * K + 1 + j by omega]
            obtain ⟨b, off, ta, tc, e1, e2, e3⟩ := hp2.at j _ hq
            obtain ⟨_, a', c', e4, _, _, _, h4⟩ := e3
            obtain ⟨bb, bo, e5, _, hx⟩ := h4 (by simp)
            injection e4 with e6 _ _
            refine ⟨b, off, ta, tc, bb, bo, e1, e6.trans e5, e2, ?_⟩
            have h1 := hx 0 (by simp)
            rw [Nat.add_zero] at h1
            exact h1
          have HB7 : Hid (Below B w2 w7) := HBW.out.trans (b7.mono (Nat.le_trans HD2.out.da.lt HBW.out.size))
          have HGG : Hid (G = N1 - d * K ∧ d * K ≤ N1) := ⟨hG, by have := HS.out; omega⟩
          have hg1 : (X9 : Int) - (F0 : Int) = (G : Int) := by have := HNI.out; have := HF0.out; have := HGG.out.2; omega
          have hF0s : F0 ≤ 40 := by have := HF0.out; have := HGG.out.2; omega
          have HDK : Hid (F0 = d * K + 1) := HF0.out
          clear hlen hlp2 hg2 hp2 b7 hG HD HG HS HBW HF0
          go_wp2_with fail
          refine Calls.mono (HFI.out ()) ?_
          rintro e w8 ⟨rfl, rfl⟩
          go_wp2_with fail
          refine Calls.mono (HNX.out ()) ?_
          rintro e w9 ⟨rfl, rfl⟩
          go_wp2_with fail
          go_loop [151] (fun i => ∃ j : Nat, j ≤ G ∧ i = .int .i64 (j : Int)) (fun i => G - (intOf i).toNat)
          case atStart => exact ⟨0, Nat.zero_le _, rfl⟩
          case round =>
            obtain ⟨g, hgG, rfl⟩ := hrel
            by_cases hlg : g < G
            · have dg : (g : Int) < (G : Int) := by omega
              obtain ⟨b9, off9, ta9, tc9, bb9, bo9, rfl, rfl, y1, y2⟩ := HGOT.out g hlg
              obtain ⟨x, hx⟩ : ∃ x : Nat, (F0 : Int) + (g : Int) = (x : Int) := ⟨F0 + g, by omega⟩
              have hG29 : G ≤ 29 := by have := HGG.out; have := HRS.out; omega
              have hx60 : x ≤ 100 := by omega
              rw [show d * K + 1 + g = x by have := HDK.out; omega] at y2
              go_wp2_with fail
              go_round
              case rel => exact ⟨g + 1, by omega, by go_num⟩
              case measure => simp [intOf]; omega
            · have dg : (G : Int) ≤ (g : Int) := by omega
              go_wp2_with fail
              go_ret
              exact ⟨rfl, HB2.out.trans (HB7.out.mono HBz.out)⟩
        have dk : (j : Int) < (N : Int) := by omega
        obtain ⟨z, hz⟩ : ∃ x, zs[j]? = some x := ⟨_, List.getElem?_eq_getElem (by rw [← HN.out]; exact hlt)⟩
        have hzb := HZ.out z (List.mem_of_getElem? hz)
        obtain ⟨sb, so, rfl, hsb, hsc2⟩ := HSU.out.at j z hz
        have yk0 : w.cell? ⟨sb, so + j, none⟩ = some (.int .i64 z) := by
          have h1 := hsc2 0 (.int .i64 z) rfl
          rw [show j * KZ.k = j from Nat.mul_one j, Nat.add_zero] at h1
          exact h1
        have yk : wr.cell? ⟨sb, so + j, none⟩ = some (.int .i64 z) := ((HB2.out.trans (HBW.out.mono HBz.out)).cell (p := ⟨sb, so + j, none⟩) hsb).trans yk0
        clear yk0 hsc2
        by_cases h10 : j < 10
        rotate_left
        · have d10 : (10 : Int) ≤ (j : Int) := by omega
          go_wp2_with fail
          refine (open_st wr B p m 2000 o fs K d (rs.drop (d * K)) HD.out (by have := HS.out; omega)).mono ?_
          rintro e w7 ⟨l2, v, hlp2, rfl, hg2, hp2, b7⟩
          have hlen : ((rs.drop (d * K)).map (·.1)).length = N1 - d * K := by rw [List.length_map, List.length_drop, HRS.out.1]
          obtain ⟨va, vc, hv, hvc⟩ := hp2.slice
          rw [hlen] at hv hvc
          obtain ⟨G, hG⟩ : ∃ G, G = N1 - d * K := ⟨_, rfl⟩
          rw [← hG] at hv hvc
          subst hv
          obtain ⟨X9, hX9⟩ : ∃ X : Nat, nI + 1 = (X : Int) := ⟨N1 + 1, by have := HNI.out; omega⟩
          have HFI := (show Hid _ from fun (_ : Unit) => first_ok w7 l2 p _ hg2 ⟨by rw [gst_per]; omega, by rw [gst_low]; have := HS.out; omega, by show d + _ / K ≤ _; have h1 := Nat.div_le_self ((rs.drop (d * K)).length - 1) K; rw [List.length_drop, HRS.out.1] at h1 ⊢; have := HS.out; omega, by rw [gst_next, List.length_drop, HRS.out.1]; have := HS.out; omega⟩)
          have HNX := (show Hid _ from fun (_ : Unit) => next_ok w7 l2 p _ hg2)
          rw [gst_low, gst_per, ← HF0.out] at HFI
          rw [gst_next, show d * K + 1 + (rs.drop (d * K)).length = X9 by rw [List.length_drop, HRS.out.1]; have := HS.out; have := HNI.out; omega] at HNX
          have HGOT : Hid (∀ j, j < G → ∃ b off ta tc bb bo, va = some ⟨b, off, none⟩ ∧ ta = some ⟨bb, bo, none⟩ ∧ w7.cell? ⟨b, off + j, none⟩ = some (.slice ta 1 tc) ∧ w7.cell? ⟨bb, bo, none⟩ = some (.int .u8 ((d * K + 1 + j : Nat) : Int))) := fun j hj => by
            have hq : ((rs.drop (d * K)).map (·.1))[j]? = some [d * K + 1 + j] := by
              rw [List.map_drop, HRS.out.2.1, List.getElem?_drop, List.getElem?_map, List.getElem?_range (by omega)]
              show some [d * K + j + 1] = some [d * K + 1 + j]
              rw [show d * K + j + 1 = d * K + 1 + j by omega]
            obtain ⟨b, off, ta, tc, e1, e2, e3⟩ := hp2.at j _ hq
            obtain ⟨_, a', c', e4, _, _, _, h4⟩ := e3
            obtain ⟨bb, bo, e5, _, hx⟩ := h4 (by simp)
            injection e4 with e6 _ _
            refine ⟨b, off, ta, tc, bb, bo, e1, e6.trans e5, e2, ?_⟩
            have h1 := hx 0 (by simp)
            rw [Nat.add_zero] at h1
            exact h1
          have HB7 : Hid (Below B w2 w7) := HBW.out.trans (b7.mono (Nat.le_trans HD2.out.da.lt HBW.out.size))
          have HGG : Hid (G = N1 - d * K ∧ d * K ≤ N1) := ⟨hG, by have := HS.out; omega⟩
          have hg1 : (X9 : Int) - (F0 : Int) = (G : Int) := by have := HNI.out; have := HF0.out; have := HGG.out.2; omega
          have hF0s : F0 ≤ 40 := by have := HF0.out; have := HGG.out.2; omega
          have HDK : Hid (F0 = d * K + 1) := HF0.out
          clear hlen hlp2 hg2 hp2 b7 hG HD HG HS HBW HF0
          go_wp2_with fail
          refine Calls.mono (HFI.out ()) ?_
          rintro e w8 ⟨rfl, rfl⟩
          go_wp2_with fail
          refine Calls.mono (HNX.out ()) ?_
          rintro e w9 ⟨rfl, rfl⟩
          go_wp2_with fail
          go_loop [151] (fun i => ∃ j : Nat, j ≤ G ∧ i = .int .i64 (j : Int)) (fun i => G - (intOf i).toNat)
          case atStart => exact ⟨0, Nat.zero_le _, rfl⟩
          case round =>
            obtain ⟨g, hgG, rfl⟩ := hrel
            by_cases hlg : g < G
            · have dg : (g : Int) < (G : Int) := by omega
              obtain ⟨b9, off9, ta9, tc9, bb9, bo9, rfl, rfl, y1, y2⟩ := HGOT.out g hlg
              obtain ⟨x, hx⟩ : ∃ x : Nat, (F0 : Int) + (g : Int) = (x : Int) := ⟨F0 + g, by omega⟩
              have hG29 : G ≤ 29 := by have := HGG.out; have := HRS.out; omega
              have hx60 : x ≤ 100 := by omega
              rw [show d * K + 1 + g = x by have := HDK.out; omega] at y2
              go_wp2_with fail
              go_round
              case rel => exact ⟨g + 1, by omega, by go_num⟩
              case measure => simp [intOf]; omega
            · have dg : (G : Int) ≤ (g : Int) := by omega
              go_wp2_with fail
              go_ret
              exact ⟨rfl, HB2.out.trans (HB7.out.mono HBz.out)⟩
        have d10 : (j : Int) < 10 := by omega
        go_wp2_with fail
        refine (prune_st wr B p m 2000 o fs K d lp (rs.drop (d * K)) (List.replicate 32 0) HD.out HG.out HLP.out (by rw [List.length_drop]; have := HS.out; have := HRS.out; omega) z).mono ?_
        rintro e w9 ⟨rfl, d2, l9, fs2, hd, hfl, hl, hk, hb, hprd⟩
        have hdd : (rs.drop (d * K)).drop (d2 * K) = rs.drop ((d + d2) * K) := by rw [List.drop_drop, Nat.add_mul]
        rw [hdd] at hd hl
        obtain ⟨F1, hF1⟩ : ∃ F1, F1 = (d + d2) * K + 1 := ⟨_, rfl⟩
        have HF1 : Hid (F1 = (d + d2) * K + 1) := hF1
        have hmul : (d + d2) * K = d * K + d2 * K := Nat.add_mul _ _ _
        have hd2 : d2 ≤ d2 * K := by have h1 := Nat.mul_le_mul_left d2 hK1.1; omega
        have HW1 : Hid (F0 ≤ F1 ∧ (F1 = F0 ∨ (F0 < F1 ∧ (F1 : Int) ≤ z ∧ 0 < N1)) ∧ (N1 = 0 → F0 = 1) ∧ (0 < N1 → F1 ≤ N1)) := (show _ ∧ _ ∧ _ ∧ _ from by
          have h0 := HF0.out
          have h1 := HS.out
          have h2 := hprd.some
          rw [List.length_drop, HRS.out.1] at h2
          rcases h2 with h2 | ⟨h2, h3⟩
          · subst h2
            rw [Nat.zero_mul] at hmul
            refine ⟨by omega, Or.inl (by omega), fun h => ?_, fun h => ?_⟩
            · omega
            · rcases h1.2.2.2.2 with h4 | h4
              · subst h4; rw [Nat.zero_mul] at hmul; omega
              · omega
          · have h5 : ((d + d2) * K : Nat) < z := h3
            refine ⟨by omega, ?_, fun h => ?_, fun h => ?_⟩
            · rcases Nat.eq_zero_or_pos (d2 * K) with h6 | h6
              · exact Or.inl (by omega)
              · exact Or.inr ⟨by omega, by omega, by omega⟩
            · omega
            · omega)
        have HS1 : Hid (fs2.length ≤ 30 ∧ o + d2 ≤ 60 + (d + d2) ∧ d + d2 ≤ 30 ∧ (d + d2) * K ≤ N1 ∧ (d + d2 = 0 ∨ (d + d2) * K < N1)) := (show _ ∧ _ ∧ _ ∧ _ ∧ _ from by
          have h1 := HS.out
          have h2 := hprd.some
          rw [List.length_drop, HRS.out.1] at h2
          have h7 := HRS.out.2.2
          have h8 : d ≤ d * K := by have h1 := Nat.mul_le_mul_left d hK1.1; omega
          rcases h2 with h2 | ⟨h2, h3⟩
          · subst h2
            rw [Nat.zero_mul] at hmul
            exact ⟨by omega, by omega, by omega, by omega, by omega⟩
          · exact ⟨by omega, by omega, by omega, by omega, by omega⟩)
        have HD9 := (show Hid _ from hd)
        have HG9 := (show Hid _ from hl)
        have HBW9 : Hid (Below B w2 w9) := HBW.out.trans hb
        obtain ⟨X, hX⟩ : ∃ X : Nat, nI + 1 = (X : Int) := ⟨N1 + 1, by have := HNI.out; omega⟩
        have HFI := (show Hid _ from fun (_ : Unit) => first_ok w9 lp p _ hl ⟨by rw [gst_per]; omega, by rw [gst_low]; have := HS1.out; omega, by show d + d2 + _ / K ≤ _; have h1 := Nat.div_le_self ((rs.drop ((d + d2) * K)).length - 1) K; have h2 := HRS.out; have h3 := HS1.out; rw [List.length_drop, h2.1] at h1 ⊢; generalize (N1 - (d + d2) * K - 1) / K = zq at h1 ⊢; omega, by rw [gst_next, List.length_drop, HRS.out.1]; have := HS1.out; have := HRS.out; omega⟩)
        have HNX := (show Hid _ from fun (_ : Unit) => next_ok w9 lp p _ hl)
        rw [gst_low, gst_per, ← hF1] at HFI
        rw [gst_next, show (d + d2) * K + 1 + (rs.drop ((d + d2) * K)).length = X by rw [List.length_drop, HRS.out.1]; have := HS1.out; have := HNI.out; omega] at HNX
        have hF1s : F1 ≤ 40 := by have := HS1.out; have := HRS.out; omega
        clear hd hl hk hb hprd hfl hdd hF1 hmul hd2 HD HG HS HBW yk
        by_cases hq : F1 = F0
        · subst hq
          have e1 : ((F1 : Int) < (F1 : Int)) = False := by simp
          rcases Nat.eq_zero_or_pos N1 with hn0 | hn0
          · have e2 : (nI < (F1 : Int)) = True := eq_true (by have := HNI.out; have := HW1.out.2.2.1 hn0; omega)
            have e3 : ((0 : Int) < nI) = False := eq_false (by have := HNI.out; omega)
            clear hn0
            go_wp2_with fail
            refine Calls.mono (HFI.out ()) ?_
            rintro e wq ⟨rfl, hwq⟩
            obtain rfl := hwq.symm
            go_wp2_with fail
            refine Calls.mono (HFI.out ()) ?_
            rintro e wq ⟨rfl, hwq⟩
            obtain rfl := hwq.symm
            go_wp2_with fail
            refine Calls.mono (HFI.out ()) ?_
            rintro e wq ⟨rfl, hwq⟩
            obtain rfl := hwq.symm
            go_wp2_with fail
            refine Calls.mono (HNX.out ()) ?_
            rintro e wq ⟨rfl, hwq⟩
            obtain rfl := hwq.symm
            go_wp2_with fail
            refine Calls.mono (HFI.out ()) ?_
            rintro e wq ⟨rfl, hwq⟩
            obtain rfl := hwq.symm
            go_wp2_with fail
            go_roundw
            case rel => exact ⟨j + 1, d + d2, o + d2, F1, fs2, by omega, by omega, by go_num, rfl, HF1.out, HD9.out, HG9.out, HS1.out, HBW9.out⟩
            case measure => simp [intOf]; omega
          · have e2 : (nI < (F1 : Int)) = False := eq_false (by have := HNI.out; have := HW1.out.2.2.2 hn0; omega)
            clear hn0
            go_wp2_with fail
            refine Calls.mono (HFI.out ()) ?_
            rintro e wq ⟨rfl, hwq⟩
            obtain rfl := hwq.symm
            go_wp2_with fail
            refine Calls.mono (HFI.out ()) ?_
            rintro e wq ⟨rfl, hwq⟩
            obtain rfl := hwq.symm
            go_wp2_with fail
            refine Calls.mono (HFI.out ()) ?_
            rintro e wq ⟨rfl, hwq⟩
            obtain rfl := hwq.symm
            go_wp2_with fail
            refine Calls.mono (HNX.out ()) ?_
            rintro e wq ⟨rfl, hwq⟩
            obtain rfl := hwq.symm
            go_wp2_with fail
            refine Calls.mono (HFI.out ()) ?_
            rintro e wq ⟨rfl, hwq⟩
            obtain rfl := hwq.symm
            go_wp2_with fail
            go_roundw
            case rel => exact ⟨j + 1, d + d2, o + d2, F1, fs2, by omega, by omega, by go_num, rfl, HF1.out, HD9.out, HG9.out, HS1.out, HBW9.out⟩
            case measure => simp [intOf]; omega
        · have h7 : F0 < F1 ∧ (F1 : Int) ≤ z ∧ 0 < N1 := by
            rcases HW1.out.2.1 with h | h
            · exact absurd h hq
            · exact h
          have e1 : ((F1 : Int) < (F0 : Int)) = False := eq_false (by omega)
          have e2 : (nI < (F1 : Int)) = False := eq_false (by have := HNI.out; have := HW1.out.2.2.2 h7.2.2; omega)
          have e3 : ((F1 : Int) = (F0 : Int)) = False := eq_false (by omega)
          have e4 : (z < (F1 : Int)) = False := eq_false (by omega)
          clear h7 hq
          go_wp2_with fail
          refine Calls.mono (HFI.out ()) ?_
          rintro e wq ⟨rfl, hwq⟩
          obtain rfl := hwq.symm
          go_wp2_with fail
          refine Calls.mono (HFI.out ()) ?_
          rintro e wq ⟨rfl, hwq⟩
          obtain rfl := hwq.symm
          go_wp2_with fail
          refine Calls.mono (HFI.out ()) ?_
          rintro e wq ⟨rfl, hwq⟩
          obtain rfl := hwq.symm
          go_wp2_with fail
          refine Calls.mono (HFI.out ()) ?_
          rintro e wq ⟨rfl, hwq⟩
          obtain rfl := hwq.symm
          go_wp2_with fail
          refine Calls.mono (HNX.out ()) ?_
          rintro e wq ⟨rfl, hwq⟩
          obtain rfl := hwq.symm
          go_wp2_with fail
          refine Calls.mono (HFI.out ()) ?_
          rintro e wq ⟨rfl, hwq⟩
          obtain rfl := hwq.symm
          go_wp2_with fail
          go_roundw
          case rel => exact ⟨j + 1, d + d2, o + d2, F1, fs2, by omega, by omega, by go_num, rfl, HF1.out, HD9.out, HG9.out, HS1.out, HBW9.out⟩
          case measure => simp [intOf]; omega
end Go.Proofs.YtkmdegmpffgplaaGreatDoor
