/- log XXXII: LogTwice's walk. -/
import Derived.Test.YtkmdegmpffgplaaGreatDoorLbn
namespace Go.Proofs.YtkmdegmpffgplaaGreatDoor
open Go.RowKit Go.Maps Go.Sort Go.Shelf pk
set_option linter.unusedVariables false
set_option linter.unusedSimpArgs false
set_option maxRecDepth 100000 in
set_option maxHeartbeats 8000000 in
theorem logTwice_walk (w : World) (hT : Pt10 w) (hTb : Tb w) (r : Nat) (hr : r < 256) (sa : Option Addr) (sn sc : Nat) (ts : List TB) (hs : Sl KT w (.slice sa sn sc) ts) (hts : ∀ t ∈ ts, Bs w (.slice t.a t.bs.length t.c) t.bs) (va : Option Addr) (vn vc : Nat) (xs0 : List Nat) (hv : Bs w (.slice va vn vc) xs0) :
    Calls Tryz.prog 6 #[.int .u8 (r : Int), .slice sa sn sc, .slice va vn vc] w fun e w' => e = .returned (.bool true) ∧ Below w.heap.size w w' := by
  have HT : Hid (Pt10 w ∧ Tb w) := ⟨hT, hTb⟩
  have HSU : Hid (Sl KT w (.slice sa sn sc) ts) := hs
  have HTS : Hid (∀ t ∈ ts, Bs w (.slice t.a t.bs.length t.c) t.bs) := hts
  have HV : Hid (Bs w (.slice va vn vc) xs0) := hv
  obtain ⟨hsn, hsc⟩ : sn = ts.length ∧ sn ≤ sc ∧ sc ≤ 9223372036854775807 := by
    obtain ⟨_, _, e, h1, h2, _⟩ := hs
    cases e
    exact ⟨rfl, h1, h2⟩
  obtain ⟨N, hN⟩ : ∃ N, N = ts.length := ⟨_, rfl⟩
  have HN : Hid (N = ts.length) := hN
  have hNN : N ≤ 9223372036854775807 := by omega
  rw [hsn, ← hN]
  obtain ⟨K, hK⟩ : ∃ n : Nat, 1 + (r : Int) % 6 = (n : Int) := ⟨1 + r % 6, by omega⟩
  have hK1 : 1 ≤ K ∧ K ≤ 6 := by omega
  have hvl := hv.len
  obtain ⟨V, hV⟩ : ∃ V, V = min vn 100 := ⟨_, rfl⟩
  have HXS : Hid (Bs w (.slice va V vc) (xs0.take V) ∧ (xs0.take V).length = V) := ⟨hv.cut V (by omega), by rw [List.length_take]; omega⟩
  obtain ⟨xs, hxs⟩ : ∃ xs, xs = xs0.take V := ⟨_, rfl⟩
  rw [← hxs] at HXS
  have hmin : ∀ w', (Builtin.min_ #[3, 3] 3 #[.int .i64 (vn : Int), .int .i64 100]).run Tryz.prog w' = .ok (.int .i64 (V : Int)) w' := fun w' => cut_min w' vn 100 V (by omega) hV
  have d1 : (V : Int) ≤ (vn : Int) := by omega
  have d2 : (V : Int) ≤ (vc : Int) := by omega
  have d3 : V ≤ 100 := by omega
  have d4 : vn ≤ vc ∧ vc ≤ 9223372036854775807 := by omega
  clear hT hTb hs hts hsn hN hv hvl hV hxs
  go_enter Tryz.func6, Tryz.ntmps6
  go_wp2_with fail
  refine (awake_ok w HT.out.1 HT.out.2 HT.out.2.lt).mono ?_
  rintro e w1 ⟨rfl, b1⟩
  have HB1 := (show Hid _ from b1)
  clear b1
  go_wp2_with fail
  refine (new_any 20000 w1 (by omega) (by omega)).mono ?_
  rintro e w2 ⟨p, m, rfl, h2, b2⟩
  have HB2 : Hid (Below w.heap.size w w2) := HB1.out.trans (b2.mono HB1.out.size)
  have HBz : Hid (w.heap.size ≤ w1.heap.size) := HB1.out.size
  have HPT : Hid (PtB w1.heap.size w2 ∧ TbB w1.heap.size w2) := ⟨(ptB_of (HT.out.1.on HB1.out)).on b2, (tbB_of (HT.out.2.step HB1.out HT.out.2.lt) (Nat.le_trans HT.out.2.lt HB1.out.size)).on b2⟩
  have HD2 : Hid (Dst w2 w1.heap.size p m 20000 0 [] K 0 []) := dst_new h2 HPT.out.1 HPT.out.2 K (by omega)
  clear h2 b2
  unfold ptr
  generalize w1.heap.size = B at *
  go_wp2_with fail
  refine (open_st w2 B p m 20000 0 [] K 0 [] HD2.out (by simp)).mono ?_
  rintro e w3 ⟨lp, u, hlp, rfl, hg, hp, b3⟩
  have HB3 : Hid (Below w2.heap.size w2 w3) := b3
  have HLP : Hid (B ≤ lp) := Nat.le_trans HD2.out.da.lt hlp
  have HG3 : Hid (Lg w3 lp p (gst K 0 [] (List.replicate 32 0))) := hg
  have HD3 : Hid (Dst w3 B p m 20000 0 [] K 0 []) := HD2.out.step b3
  clear hlp hg hp b3
  go_wp2_with fail
  have bW3 : Below w.heap.size w w3 := HB2.out.trans (HB3.out.mono HB2.out.size)
  refine (twin_ok _ xs w3 (HXS.out.1.step bW3) (by rw [HXS.out.2]; omega)).mono ?_
  rintro e w4 ⟨⟨u4, rfl, o4⟩, b4⟩
  have E5 : apnd ⟨20000, 0, 0, true, none, []⟩ nmD xs = (0, ⟨20000, 0 + 1, 0, true, none, apd [] nmD (parts xs)⟩) := apnd_idle rfl (fitA_of (.inr (by decide)) (by rw [HXS.out.2]; unfold cnt; simp [totA]; omega))
  have HE5 := (show Hid _ from E5)
  have HA4 : Hid (DA w4 B p m ⟨20000, 0, 0, true, none, []⟩) := HD3.out.da.step b4
  have HO4 := (show Hid _ from o4)
  have HG4 : Hid (Lg w4 lp p (gst K 0 [] (List.replicate 32 0))) := HG3.out.step b4
  have HB4 : Hid (Below B w2 w4) := (HB3.out.mono HD2.out.da.lt).trans (b4.mono HD3.out.da.lt)
  clear E5 o4 b4 bW3 HD3 HG3 HB3
  go_wp2_with fail
  refine (append_any w4 B p m _ HA4.out ⟨#[100, 97, 116, 97]⟩ (by decide) u4 xs HO4.out.bs HO4.out.safe (by rw [HXS.out.2]; omega) (by decide) (by decide)).mono ?_
  rintro e w5 ⟨he, h5⟩
  rw [show (⟨#[100, 97, 116, 97]⟩ : ByteArray).data.toList = nmD from rfl, HE5.out] at he h5
  obtain rfl : e = .returned (.int .i64 0) := he
  have HA5 : Hid (DA w5 B p m ⟨20000, 0 + 1, 0, true, none, apd [] nmD (parts xs)⟩) := h5.1
  have HG5 : Hid (Lg w5 lp p (gst K 0 [] (List.replicate 32 0))) := HG4.out.kee h5.2.1
  have HB5 : Hid (Below B w2 w5) := HB4.out.trans h5.2.2
  clear h5 HO4 HE5 HA4 HG4 HB4
  have hcv := conv_1 w5 (.int .u8 120)
  go_wp2_with fail
  have hA := bs_1 w5 120 (by omega)
  have bA : Below w5.heap.size w5 (w5.alloc (.cells #[.int .u8 120] 5 (1, 2))) := (Below.refl _ _).alloc (Nat.le_refl _) _
  have E6 : apnd ⟨20000, 0 + 1, 0, true, none, apd [] nmD (parts xs)⟩ nmL [120] = (0, ⟨20000, 0 + 1 + 1, 0, true, none, apd (apd [] nmD (parts xs)) nmL (parts [120])⟩) := apnd_idle rfl (fitA_of (.inr (by show 1 ≠ 64; decide)) (by show 1 + totA [(nmD, parts xs, 0)] ≤ _; simp only [totA]; rw [parts_len, HXS.out.2]; unfold cnt; omega))
  have HE6 := (show Hid _ from E6)
  refine (append_any _ B p m _ (HA5.out.step bA) ⟨#[108, 49]⟩ (by decide) _ [120] hA.1 hA.2 (by simp) (by show 0 + 1 ≤ _; omega) (by show 0 ≤ _; omega)).mono ?_
  rintro e w6 ⟨he, h6⟩
  rw [show (⟨#[108, 49]⟩ : ByteArray).data.toList = nmL from rfl, HE6.out, apd_two] at he h6
  obtain rfl : e = .returned (.int .i64 0) := he
  have HB6 : Hid (Below B w2 w6) := HB5.out.trans ((bA.mono HA5.out.lt).trans h6.2.2)
  have HD6 : Hid (Dst w6 B p m 20000 2 (fs2 xs) K 0 []) := dst_two h6.1 (HPT.out.1.on HB6.out) (HPT.out.2.on HB6.out) K (by omega)
  have HG6 : Hid (Lg w6 lp p (gst K 0 [] (List.replicate 32 0))) := Lg.kee (HG5.out.step bA) h6.2.1
  clear h6 hA bA E6 hcv HE6 HA5 HG5 HB5
  have HT0 : Hid (totA (fs2 xs) ≤ 5 ∧ lk (fs2 xs) nmD = some (nmD, parts xs, 0)) := (show _ ∧ _ from by
    refine ⟨?_, rfl⟩
    show (parts xs).length + ((parts [120]).length + 0) ≤ 5
    rw [parts_len, parts_len, HXS.out.2]
    unfold cnt
    simp
    omega)
  go_wp2_with fail
  go_loopw [13, 68] (fun want i wr => ∃ (k o : Nat) (fs : FS) (rs : List Rc), k ≤ N ∧ k ≤ 40 ∧ i = .int .i64 (k : Int) ∧ Hid (Dst wr B p m 20000 o fs K 0 rs) ∧ Hid (Lg wr lp p (gst K 0 rs (List.replicate 32 0))) ∧ Hid (totA fs ≤ 5 + 10 * k ∧ fs.length ≤ 2 + k ∧ rs.length ≤ k ∧ o ≤ 2 + 2 * k ∧ lk fs nmD = some (nmD, parts xs, 0)) ∧ Hid (PayI w wr B want (rs.map (·.1))) ∧ Hid (Below B w2 wr)) (fun _ i _ => N - (intOf i).toNat)
  case atStart => exact ⟨0, 2, fs2 xs, [], Nat.zero_le _, by omega, rfl, HD6.out, HG6.out, ⟨HT0.out.1, Nat.le_refl _, Nat.le_refl _, Nat.le_refl _, HT0.out.2⟩, payI_nil _ _ _, HB6.out⟩
  case round =>
    clear HD6 HG6 HB6 HT0
    obtain ⟨k, o, fs, rs, hkN, hk40, rfl, HD, HG, HS, HP, HBW⟩ := hrel
    have HWR : Hid (Below w.heap.size w wr) := HB2.out.trans (HBW.out.mono HBz.out)
    by_cases hlt : k < N
    rotate_left
    · have dk : (N : Int) ≤ (k : Int) := by omega
      obtain ⟨wa, wc, hwv, hwc⟩ := HP.out.form
      rw [List.length_map] at hwv hwc
      obtain ⟨WN, hWN⟩ : ∃ n, n = rs.length := ⟨_, rfl⟩
      rw [← hWN] at hwv hwc
      have HWN : Hid (WN = rs.length) := hWN
      subst hwv
      have hw50 : WN ≤ 50 := by have := HS.out; omega
      clear hWN
      go_wp2_with fail
      refine Calls.mono (ops_any wr B p m _ HD.out.da) ?_
      rintro e w7 ⟨rfl, hw7⟩
      obtain rfl := hw7.symm
      clear hw7
      go_wp2_with fail
      have HSN : seen ⟨20000, o, 0, true, none, fs⟩ nmD = (0, parts xs) := seen_on (t := (nmD, parts xs, 0)) rfl HS.out.2.2.2.2 rfl
      have HSE := (show Hid _ from HSN)
      refine (read_any wr B p m _ HD.out.da ⟨#[100, 97, 116, 97]⟩ (by decide)).mono ?_
      rintro e w8 ⟨⟨u8, he, O8⟩, b8⟩
      rw [show (⟨#[100, 97, 116, 97]⟩ : ByteArray).data.toList = nmD from rfl, HSN] at he O8
      obtain rfl : e = .returned (.tuple #[u8, .int .i64 0]) := he
      obtain ⟨XS, hXS⟩ : ∃ z, z = flat ((0, parts xs) : Nat × List (List Nat)).2 := ⟨_, rfl⟩
      have HXS9 := (show Hid _ from hXS)
      rw [← hXS] at O8
      have HU8 : Hid (Bs w8 u8 XS) := O8.bs
      have HD8 : Hid (Dst w8 B p m 20000 o fs K 0 rs) := HD.out.step b8
      have HP8 : Hid (PayI w w8 B (.slice wa WN wc) (rs.map (·.1))) := HP.out.step b8
      have HBW8 : Hid (Below B w2 w8) := HBW.out.trans (b8.mono HD.out.da.lt)
      obtain ⟨X, hX⟩ : ∃ X : Nat, (WN : Int) + 1 = (X : Int) := ⟨WN + 1, by omega⟩
      have hx50 : X ≤ 60 := by omega
      clear HSN O8 b8 hXS HD HG HP HBW
      go_wp2_with fail
      go_loopw [108] (fun i wq => ∃ j : Nat, j ≤ 3 ∧ i = .int .i64 (j : Int) ∧ Hid (Dst wq B p m 20000 o fs K 0 rs) ∧ Hid (PayI w wq B (.slice wa WN wc) (rs.map (·.1))) ∧ Hid (Bs wq u8 XS) ∧ Hid (Below B w2 wq)) (fun i _ => 3 - (intOf i).toNat)
      case atStart => exact ⟨0, by omega, rfl, HD8.out, HP8.out, HU8.out, HBW8.out⟩
      case round =>
        clear HU8 HD8 HP8 HBW8
        obtain ⟨j, hj3, rfl, HD, HP, HU8, HBW⟩ := hrel
        by_cases hjl : j < 3
        · have dj : (j : Int) < 3 := by omega
          go_wp2_with fail
          refine (open_st wr B p m 20000 o fs K 0 rs HD.out (by have := HS.out; omega)).mono ?_
          rintro e w9 ⟨l2, v, hlp2, rfl, hg2, hp2, b9⟩
          have HBW9 : Hid (Below B w2 w9) := HBW.out.trans (b9.mono HD.out.da.lt)
          have HD9 : Hid (Dst w9 B p m 20000 o fs K 0 rs) := HD.out.step b9
          have HP9 : Hid (PayI w w9 B (.slice wa WN wc) (rs.map (·.1))) := HP.out.step b9
          have HU9 : Hid (Bs w9 u8 XS) := HU8.out.step b9
          obtain ⟨t1, et1, hr1⟩ := hp2.rws
          obtain ⟨t2, et2, hr2⟩ := HP9.out.rws (HB2.out.trans (HBW9.out.mono HBz.out))
          have HSA := (show Hid _ from fun (_ : Unit) => sameL_ok w9 v (.slice wa WN wc) t1 t2 hr1 hr2 (et1.trans et2.symm))
          have HGX := (show Hid _ from hg2)
          clear hlp2 hp2 b9 et1 hr1 et2 hr2 hg2 HD HP HU8 HBW
          go_wp2_with fail
          refine Calls.mono (HSA.out ()) ?_
          rintro e w10 ⟨rfl, b10⟩
          have HBW10 : Hid (Below B w2 w10) := HBW9.out.trans (b10.mono HD9.out.da.lt)
          have HD10 : Hid (Dst w10 B p m 20000 o fs K 0 rs) := HD9.out.step b10
          have HP10 : Hid (PayI w w10 B (.slice wa WN wc) (rs.map (·.1))) := HP9.out.step b10
          have HU10 : Hid (Bs w10 u8 XS) := HU9.out.step b10
          have hg10 := HGX.out.step b10
          have HFI := (show Hid _ from fun (_ : Unit) => first_ok w10 l2 p _ hg10 ⟨by rw [gst_per]; omega, by rw [gst_low]; omega, by show 0 + _ / K ≤ _; have h1 := Nat.div_le_self (rs.length - 1) K; have := HS.out; omega, by rw [gst_next]; have := HS.out; omega⟩)
          have HNX := (show Hid _ from fun (_ : Unit) => next_ok w10 l2 p _ hg10)
          rw [gst_low, gst_per, show 0 * K + 1 = 1 by omega] at HFI
          rw [gst_next, show 0 * K + 1 + rs.length = X by have := HWN.out; omega] at HNX
          clear hg10 b10 HGX HSA HBW9 HD9 HP9 HU9
          go_wp2_with fail
          refine Calls.mono (HFI.out ()) ?_
          rintro e wq ⟨rfl, hwq⟩
          obtain rfl := hwq.symm
          clear hwq
          go_wp2_with fail
          refine Calls.mono (HNX.out ()) ?_
          rintro e wq ⟨rfl, hwq⟩
          obtain rfl := hwq.symm
          clear hwq
          go_wp2_with fail
          refine Calls.mono (ops_any w10 B p m _ HD10.out.da) ?_
          rintro e wq ⟨rfl, hwq⟩
          obtain rfl := hwq.symm
          clear hwq
          go_wp2_with fail
          go_roundw
          case rel => exact ⟨j + 1, by omega, by go_num, HD10.out, HP10.out, HU10.out, HBW10.out⟩
          case measure => simp [intOf]; omega
        · obtain rfl : j = 3 := by omega
          go_wp2_with fail
          refine (read_any wr B p m _ HD.out.da ⟨#[100, 97, 116, 97]⟩ (by decide)).mono ?_
          rintro e w9 ⟨⟨u9, he, O9⟩, b9⟩
          rw [show (⟨#[100, 97, 116, 97]⟩ : ByteArray).data.toList = nmD from rfl, HSE.out] at he O9
          have O9' : OwnB w9 wr.heap.size u9 XS := by rw [HXS9.out]; exact O9
          obtain rfl : e = .returned (.tuple #[u9, .int .i64 0]) := he
          have HU9 : Hid (Bs w9 u9 XS ∧ Bs w9 u8 XS) := ⟨O9'.bs, HU8.out.step b9⟩
          have HBW9 : Hid (Below B w2 w9) := HBW.out.trans (b9.mono HD.out.da.lt)
          have HDL : Hid (B ≤ w9.heap.size) := (HD.out.step b9).da.lt
          clear O9 O9' b9 HU8 HBW HP HD
          go_wp2_with fail
          have C := same_ok u9 u8 XS XS w9 HU9.out.1 HU9.out.2
          rw [decide_eq_true (show XS = XS from rfl)] at C
          refine C.mono ?_
          rintro e w10 ⟨rfl, b10⟩
          have HBW10 : Hid (Below B w2 w10) := HBW9.out.trans (b10.mono HDL.out)
          clear C b10
          go_wp2_with fail
          go_ret
          exact ⟨rfl, HB2.out.trans (HBW10.out.mono HBz.out)⟩
    have dk : (k : Int) < (N : Int) := by omega
    obtain ⟨tk, htk⟩ : ∃ x, ts[k]? = some x := ⟨_, List.getElem?_eq_getElem (by rw [← HN.out]; exact hlt)⟩
    have HTK : Hid (Bs w (.slice tk.a tk.bs.length tk.c) tk.bs) := HTS.out tk (List.mem_of_getElem? htk)
    obtain ⟨sb, so, rfl, hsb, hsc2⟩ := HSU.out.at k tk htk
    obtain ⟨ta, tc, tb⟩ := tk
    have HTK' : Hid (Bs w (.slice ta tb.length tc) tb) := HTK.out
    have yk0 : w.cell? ⟨sb, so + k, none⟩ = some (.slice ta tb.length tc) := by
      have h1 := hsc2 0 (.slice ta tb.length tc) rfl
      rw [show k * KT.k = k from Nat.mul_one k, Nat.add_zero] at h1
      exact h1
    have yk : wr.cell? ⟨sb, so + k, none⟩ = some (.slice ta tb.length tc) := (HWR.out.cell (p := ⟨sb, so + k, none⟩) hsb).trans yk0
    obtain ⟨tn, htn⟩ : ∃ n, n = tb.length := ⟨_, rfl⟩
    rw [← htn] at yk
    have htl := HTK'.out.len
    clear yk0 hsc2 HTK
    by_cases h40 : k < 40
    rotate_left
    · have d40 : (40 : Int) ≤ (k : Int) := by omega
      obtain ⟨wa, wc, hwv, hwc⟩ := HP.out.form
      rw [List.length_map] at hwv hwc
      obtain ⟨WN, hWN⟩ : ∃ n, n = rs.length := ⟨_, rfl⟩
      rw [← hWN] at hwv hwc
      have HWN : Hid (WN = rs.length) := hWN
      subst hwv
      have hw50 : WN ≤ 50 := by have := HS.out; omega
      clear hWN
      go_wp2_with fail
      refine Calls.mono (ops_any wr B p m _ HD.out.da) ?_
      rintro e w7 ⟨rfl, hw7⟩
      obtain rfl := hw7.symm
      clear hw7
      go_wp2_with fail
      have HSN : seen ⟨20000, o, 0, true, none, fs⟩ nmD = (0, parts xs) := seen_on (t := (nmD, parts xs, 0)) rfl HS.out.2.2.2.2 rfl
      have HSE := (show Hid _ from HSN)
      refine (read_any wr B p m _ HD.out.da ⟨#[100, 97, 116, 97]⟩ (by decide)).mono ?_
      rintro e w8 ⟨⟨u8, he, O8⟩, b8⟩
      rw [show (⟨#[100, 97, 116, 97]⟩ : ByteArray).data.toList = nmD from rfl, HSN] at he O8
      obtain rfl : e = .returned (.tuple #[u8, .int .i64 0]) := he
      obtain ⟨XS, hXS⟩ : ∃ z, z = flat ((0, parts xs) : Nat × List (List Nat)).2 := ⟨_, rfl⟩
      have HXS9 := (show Hid _ from hXS)
      rw [← hXS] at O8
      have HU8 : Hid (Bs w8 u8 XS) := O8.bs
      have HD8 : Hid (Dst w8 B p m 20000 o fs K 0 rs) := HD.out.step b8
      have HP8 : Hid (PayI w w8 B (.slice wa WN wc) (rs.map (·.1))) := HP.out.step b8
      have HBW8 : Hid (Below B w2 w8) := HBW.out.trans (b8.mono HD.out.da.lt)
      obtain ⟨X, hX⟩ : ∃ X : Nat, (WN : Int) + 1 = (X : Int) := ⟨WN + 1, by omega⟩
      have hx50 : X ≤ 60 := by omega
      clear HSN O8 b8 hXS HD HG HP HBW
      go_wp2_with fail
      go_loopw [108] (fun i wq => ∃ j : Nat, j ≤ 3 ∧ i = .int .i64 (j : Int) ∧ Hid (Dst wq B p m 20000 o fs K 0 rs) ∧ Hid (PayI w wq B (.slice wa WN wc) (rs.map (·.1))) ∧ Hid (Bs wq u8 XS) ∧ Hid (Below B w2 wq)) (fun i _ => 3 - (intOf i).toNat)
      case atStart => exact ⟨0, by omega, rfl, HD8.out, HP8.out, HU8.out, HBW8.out⟩
      case round =>
        clear HU8 HD8 HP8 HBW8
        obtain ⟨j, hj3, rfl, HD, HP, HU8, HBW⟩ := hrel
        by_cases hjl : j < 3
        · have dj : (j : Int) < 3 := by omega
          go_wp2_with fail
          refine (open_st wr B p m 20000 o fs K 0 rs HD.out (by have := HS.out; omega)).mono ?_
          rintro e w9 ⟨l2, v, hlp2, rfl, hg2, hp2, b9⟩
          have HBW9 : Hid (Below B w2 w9) := HBW.out.trans (b9.mono HD.out.da.lt)
          have HD9 : Hid (Dst w9 B p m 20000 o fs K 0 rs) := HD.out.step b9
          have HP9 : Hid (PayI w w9 B (.slice wa WN wc) (rs.map (·.1))) := HP.out.step b9
          have HU9 : Hid (Bs w9 u8 XS) := HU8.out.step b9
          obtain ⟨t1, et1, hr1⟩ := hp2.rws
          obtain ⟨t2, et2, hr2⟩ := HP9.out.rws (HB2.out.trans (HBW9.out.mono HBz.out))
          have HSA := (show Hid _ from fun (_ : Unit) => sameL_ok w9 v (.slice wa WN wc) t1 t2 hr1 hr2 (et1.trans et2.symm))
          have HGX := (show Hid _ from hg2)
          clear hlp2 hp2 b9 et1 hr1 et2 hr2 hg2 HD HP HU8 HBW
          go_wp2_with fail
          refine Calls.mono (HSA.out ()) ?_
          rintro e w10 ⟨rfl, b10⟩
          have HBW10 : Hid (Below B w2 w10) := HBW9.out.trans (b10.mono HD9.out.da.lt)
          have HD10 : Hid (Dst w10 B p m 20000 o fs K 0 rs) := HD9.out.step b10
          have HP10 : Hid (PayI w w10 B (.slice wa WN wc) (rs.map (·.1))) := HP9.out.step b10
          have HU10 : Hid (Bs w10 u8 XS) := HU9.out.step b10
          have hg10 := HGX.out.step b10
          have HFI := (show Hid _ from fun (_ : Unit) => first_ok w10 l2 p _ hg10 ⟨by rw [gst_per]; omega, by rw [gst_low]; omega, by show 0 + _ / K ≤ _; have h1 := Nat.div_le_self (rs.length - 1) K; have := HS.out; omega, by rw [gst_next]; have := HS.out; omega⟩)
          have HNX := (show Hid _ from fun (_ : Unit) => next_ok w10 l2 p _ hg10)
          rw [gst_low, gst_per, show 0 * K + 1 = 1 by omega] at HFI
          rw [gst_next, show 0 * K + 1 + rs.length = X by have := HWN.out; omega] at HNX
          clear hg10 b10 HGX HSA HBW9 HD9 HP9 HU9
          go_wp2_with fail
          refine Calls.mono (HFI.out ()) ?_
          rintro e wq ⟨rfl, hwq⟩
          obtain rfl := hwq.symm
          clear hwq
          go_wp2_with fail
          refine Calls.mono (HNX.out ()) ?_
          rintro e wq ⟨rfl, hwq⟩
          obtain rfl := hwq.symm
          clear hwq
          go_wp2_with fail
          refine Calls.mono (ops_any w10 B p m _ HD10.out.da) ?_
          rintro e wq ⟨rfl, hwq⟩
          obtain rfl := hwq.symm
          clear hwq
          go_wp2_with fail
          go_roundw
          case rel => exact ⟨j + 1, by omega, by go_num, HD10.out, HP10.out, HU10.out, HBW10.out⟩
          case measure => simp [intOf]; omega
        · obtain rfl : j = 3 := by omega
          go_wp2_with fail
          refine (read_any wr B p m _ HD.out.da ⟨#[100, 97, 116, 97]⟩ (by decide)).mono ?_
          rintro e w9 ⟨⟨u9, he, O9⟩, b9⟩
          rw [show (⟨#[100, 97, 116, 97]⟩ : ByteArray).data.toList = nmD from rfl, HSE.out] at he O9
          have O9' : OwnB w9 wr.heap.size u9 XS := by rw [HXS9.out]; exact O9
          obtain rfl : e = .returned (.tuple #[u9, .int .i64 0]) := he
          have HU9 : Hid (Bs w9 u9 XS ∧ Bs w9 u8 XS) := ⟨O9'.bs, HU8.out.step b9⟩
          have HBW9 : Hid (Below B w2 w9) := HBW.out.trans (b9.mono HD.out.da.lt)
          have HDL : Hid (B ≤ w9.heap.size) := (HD.out.step b9).da.lt
          clear O9 O9' b9 HU8 HBW HP HD
          go_wp2_with fail
          have C := same_ok u9 u8 XS XS w9 HU9.out.1 HU9.out.2
          rw [decide_eq_true (show XS = XS from rfl)] at C
          refine C.mono ?_
          rintro e w10 ⟨rfl, b10⟩
          have HBW10 : Hid (Below B w2 w10) := HBW9.out.trans (b10.mono HDL.out)
          clear C b10
          go_wp2_with fail
          go_ret
          exact ⟨rfl, HB2.out.trans (HBW10.out.mono HBz.out)⟩
    have d40 : (k : Int) < 40 := by omega
    obtain ⟨M, hM⟩ : ∃ M, M = min tn 200 := ⟨_, rfl⟩
    have HPS : Hid (Bs w (.slice ta M tc) (tb.take M) ∧ (tb.take M).length = M) := ⟨by have h1 := HTK'.out; rw [← htn] at h1; exact h1.cut M (by omega), by rw [List.length_take]; omega⟩
    obtain ⟨ps, hps⟩ : ∃ ps, ps = tb.take M := ⟨_, rfl⟩
    rw [← hps] at HPS
    have hmin2 : ∀ w', (Builtin.min_ #[3, 3] 3 #[.int .i64 (tn : Int), .int .i64 200]).run Tryz.prog w' = .ok (.int .i64 (M : Int)) w' := fun w' => cut_min w' tn 200 M (by omega) hM
    have e1 : (M : Int) ≤ (tn : Int) := by omega
    have e2 : (M : Int) ≤ (tc : Int) := by omega
    have e3 : M ≤ 200 := by omega
    have e4 : tn ≤ tc ∧ tc ≤ 9223372036854775807 := by omega
    have HSAVE : Hid (Bs w (.slice ta tb.length tc) tb) := HTK'.out
    clear htn htl hM hps HTK' HSAVE
    go_wp2_with fail
    refine (twin_ok _ ps wr (HPS.out.1.step HWR.out) (by rw [HPS.out.2]; omega)).mono ?_
    rintro e w4 ⟨⟨u4, rfl, o4⟩, b4⟩
    have HO4 := (show Hid _ from o4)
    have HD4 : Hid (Dst w4 B p m 20000 o fs K 0 rs) := HD.out.step b4
    have HG4 : Hid (Lg w4 lp p (gst K 0 rs (List.replicate 32 0))) := HG.out.step b4
    have HP4 : Hid (PayI w w4 B u13 (rs.map (·.1))) := HP.out.step b4
    have HBW4 : Hid (Below B w2 w4) := HBW.out.trans (b4.mono HD.out.da.lt)
    obtain ⟨ua, uc, rfl⟩ : ∃ a c, u4 = .slice a M c := by
      obtain ⟨_, a, c, e, _⟩ := o4.bs
      rw [HPS.out.2] at e
      exact ⟨a, c, e⟩
    clear o4 b4 HD HG HP HBW yk
    go_wp2_with fail
    rcases Nat.eq_zero_or_pos M with hM0 | hM0
    · subst hM0
      refine (append_form w4 lp ua uc).mono ?_
      rintro e w5 ⟨rfl, hw5⟩
      obtain rfl := hw5.symm
      go_wp2_with fail
      go_roundw
      case rel => exact ⟨k + 1, o, fs, rs, by omega, by omega, by go_num, HD4.out, HG4.out, ⟨by have := HS.out; omega, by have := HS.out; omega, by have := HS.out; omega, by have := HS.out; omega, HS.out.2.2.2.2⟩, HP4.out, HBW4.out⟩
      case measure => simp [intOf]; omega
    · have hc4 : cn4 (M + 36) ≤ 10 := by unfold cn4; omega
      refine (append_st w4 B p m 20000 o fs K 0 lp rs (List.replicate 32 0) HD4.out HG4.out l0_ok HLP.out _ ps HO4.out.bs HO4.out.safeL (by rw [HPS.out.2]; omega) (by rw [HPS.out.2]; omega) (by have := HS.out; omega) (by have := HS.out; omega) (room_of (by have := HS.out; omega) (by rw [HPS.out.2]; have := HS.out; omega))).mono ?_
      rintro e w6 ⟨rfl, hd, hl, hk, hb⟩
      obtain ⟨ru, hru⟩ : ∃ x, x = mkR K 0 rs (List.replicate 32 0) ps := ⟨_, rfl⟩
      rw [← hru] at hd hl
      have hr1 : ru.1 = ps := by rw [hru]; simp only [mkR]
      have hr2 : ru.2.length = 32 := by rw [hru, mkR_2]; exact chn_len _ _
      have HD6 := (show Hid _ from hd)
      have HG6 := (show Hid _ from hl)
      have HP6 : Hid (PayI w w6 B u13 (rs.map (·.1))) := HP4.out.kl hk
      have HBW6 : Hid (Below B w2 w6) := HBW4.out.trans hb
      have HSZ : Hid (B ≤ w6.heap.size) := HD6.out.da.lt
      have HLR : Hid ((rs.map (·.1)).length ≤ 1000000) := (show (rs.map (·.1)).length ≤ 1000000 from by rw [List.length_map]; have := HS.out; omega)
      have HS7 : Hid (totA (afs fs K 0 rs ru) ≤ 5 + 10 * (k + 1) ∧ (afs fs K 0 rs ru).length ≤ 2 + (k + 1) ∧ (rs ++ [ru]).length ≤ k + 1 ∧ o + 1 + 1 ≤ 2 + 2 * (k + 1) ∧ lk (afs fs K 0 rs ru) nmD = some (nmD, parts xs, 0)) := (show _ ∧ _ ∧ _ ∧ _ ∧ _ from by
        have h1 := tot_afs_eq fs K 0 rs ru hr2
        rw [hr1, HPS.out.2] at h1
        have h2 := len_afs fs K 0 rs ru
        have h3 := HS.out
        refine ⟨by omega, by omega, by rw [List.length_append, List.length_singleton]; omega, by omega, ?_⟩
        rw [lk_afs_D]
        exact h3.2.2.2.2)
      have HPL : Hid ((rs ++ [ru]).map (·.1) = rs.map (·.1) ++ [ps]) := (show _ = _ from by rw [List.map_append, List.map_singleton, hr1])
      obtain ⟨num, hnum⟩ : ∃ z, z = 0 * K + 1 + rs.length := ⟨_, rfl⟩
      rw [← hnum]
      clear hd hl hk hb HD4 HG4 HP4 HBW4 HO4 hnum hru hr1 hr2
      go_wp2_with (at_builtin; refine appWantI (by rfl) _ _ rfl w B (rs.map (·.1)) u13 ta M tc ps (by rfl) (by rfl) HP6.out (Or.inl HPS.out.1) HSZ.out HLR.out ?_; intro v7 w7 hp7 hb7 hk7)
      have HP7 : Hid (PayI w w7 B v7 ((rs ++ [ru]).map (·.1))) := (show PayI _ _ _ _ _ from by rw [HPL.out]; exact hp7)
      have HD7 := (show Hid _ from HD6.out.kep hk7 hb7)
      have HG7 : Hid (Lg w7 lp p (gst K 0 (rs ++ [ru]) (List.replicate 32 0))) := Lg.kep HG6.out hk7
      have HBW7 : Hid (Below B w2 w7) := HBW6.out.trans hb7
      clear hp7 hb7 hk7 HP6 HD6 HG6 HBW6
      go_wp2_with fail
      go_roundw
      case rel => exact ⟨k + 1, o + 1 + 1, afs fs K 0 rs ru, rs ++ [ru], by omega, by omega, by go_num, HD7.out, HG7.out, HS7.out, HP7.out, HBW7.out⟩
      case measure => simp [intOf]; omega
end Go.Proofs.YtkmdegmpffgplaaGreatDoor
