/- log XL: LogTail's walk. -/
import Derived.Test.YtkmdegmpffgplaaGreatDoorMag
import Derived.Test.YtkmdegmpffgplaaGreatDoorLbn
namespace Go.Proofs.YtkmdegmpffgplaaGreatDoor
open Go.RowKit Go.Maps Go.Sort Go.Shelf pk
set_option linter.unusedVariables false
set_option linter.unusedSimpArgs false
theorem own_one {w : World} {g B : Nat} (a : Option Addr) (bs : List Nat) (c : Nat) (h : w.heap[g]? = some (.cells #[.slice a bs.length c] 22 (0, 0))) (hB : B ≤ g) : Own KT w B (.slice (some ⟨g, 0, none⟩) 1 1) [⟨a, c, bs⟩] :=
  ⟨⟨rfl, Or.inr ⟨g, 1, _, rfl, hB, h, Nat.le_refl _, by unfold maxLen; omega, by simp [KT], by simp [KT, Kd.cells]⟩⟩⟩
theorem flat_first (xs : List Nat) : (flat (parts xs)).getD 0 0 = xs.getD 0 0 := by
  cases xs with
  | nil => rfl
  | cons a xs =>
    have hc : cnt (a :: xs).length = (cnt (a :: xs).length - 1) + 1 := by unfold cnt; simp; omega
    unfold parts
    rw [hc, List.range_succ_eq_map, List.map_cons]
    unfold flat
    rw [List.flatMap_cons]
    have h1 : (pad32 (part (a :: xs) 0)).length = 32 := pad32_len _
    rw [List.getD_eq_getElem?_getD, List.getElem?_append_left (by rw [h1]; omega), pad32_get _ 0 (by omega)]
    unfold part
    rfl
theorem nm0_eq : (⟨#[108, 48, 48, 48, 48, 48, 48, 48, 48]⟩ : ByteArray).data.toList = nmS 0 := by decide
/-- bytes behind the only segment of a log -/
theorem flsX_tail {fs : FS} {rs : List Rc} (h : Fls fs 1000 0 rs) (h1 : 0 < rs.length) (h2 : rs.length ≤ 1000) (xs : List Nat) : FlsX (apd fs (nmS 0) (parts xs)) 1000 rs 1 (flat (parts xs)) := by
  obtain ⟨t, ht, hf⟩ := h.file 0 (by omega)
  rw [Nat.zero_add] at ht hf
  have hn : nmS 0 ∈ nms fs := (lk_isSome _ _).1 (by rw [ht]; rfl)
  refine ⟨fun i hi => ?_, fun k hk hm => ?_, fun l hl => ?_, fun i hi => by omega, by omega, by omega⟩
  · obtain rfl : i = 0 := by omega
    refine ⟨_, lk_apd_same fs (nmS 0) (parts xs), ?_⟩
    rw [ht]
    show flat (t.2.1 ++ parts xs) = _
    rw [flat_app, hf, if_pos rfl]
  · rw [nms_apd, if_pos hn] at hm
    obtain ⟨i, h3, h4⟩ := h.only k hk hm
    omega
  · rw [nms_apd, if_pos hn] at hl
    exact h.name l hl
theorem tail_cut (o : Nat) (fs : FS) (rs : List Rc) (xs : List Nat) (t0 : List UInt8 × List (List Nat) × Nat) (ht0 : lk fs (nmS 0) = some t0) (hf0 : flat t0.2.1 = segB (0 * 1000 + 1) (sgt 1000 rs 0)) :
    ∃ o9 fs9 t9, ocut ⟨20000, o, 0, true, none, apd fs (nmS 0) (parts xs)⟩ 1000 rs 1 (flat (parts xs)) = (0, ⟨20000, o9, 0, true, none, fs9⟩) ∧ lk fs9 (nmS 0) = some t9 ∧ t9.2.1.length = t0.2.1.length := by
  have hlk : lk (apd fs (nmS 0) (parts xs)) (nmS 0) = some (t0.1, t0.2.1 ++ parts xs, t0.2.2) := by rw [lk_apd_same, ht0]
  have hkp : (segB (0 * 1000 + 1) (sgt 1000 rs 0)).length / 32 = t0.2.1.length := by rw [← hf0, flat_len]; omega
  by_cases hT : flat (parts xs) = []
  · refine ⟨_, _, _, dcut_nil hT, hlk, ?_⟩
    have h1 := congrArg List.length hT
    rw [flat_len] at h1
    have h1' : 32 * (parts xs).length = 0 := h1
    have h2 : (parts xs).length = 0 := by omega
    show (t0.2.1 ++ parts xs).length = _
    rw [List.length_append, h2, Nat.add_zero]
  · refine ⟨o + 1, doOp ⟨2, nmS 0, [], t0.2.1.length⟩ (apd fs (nmS 0) (parts xs)), (t0.1, (t0.2.1 ++ parts xs).take t0.2.1.length, min t0.2.1.length (t0.2.1 ++ parts xs).length), ?_, ?_, ?_⟩
    · unfold ocut
      rw [dcut_some hT, show (1 - 1) * 1000 + 1 = 0 * 1000 + 1 from rfl, show (1 - 1 : Nat) = 0 from rfl, hkp]
      exact oper_idle (nmS_is 0) (fun h => by cases h) (by rw [hlk]; rfl)
    · rw [trunc_fs, lk_map _ _ (fun t => by split <;> rfl), hlk]
      have h1 := (lk_nm ht0).1
      show some (if t0.1 = nmS 0 then _ else _) = _
      rw [if_pos h1]
    · show ((t0.2.1 ++ parts xs).take t0.2.1.length).length = _
      rw [List.length_take, List.length_append]
      omega
set_option maxRecDepth 100000 in
set_option maxHeartbeats 8000000 in
theorem logTail_walk (w : World) (hT : Pt10 w) (hTb : Tb w) (sa : Option Addr) (sn sc : Nat) (ts : List TB) (hs : Sl KT w (.slice sa sn sc) ts) (hts : ∀ t ∈ ts, Bs w (.slice t.a t.bs.length t.c) t.bs) (va : Option Addr) (vn vc : Nat) (xs0 : List Nat) (hv : Bs w (.slice va vn vc) xs0) :
    Calls Tryz.prog 7 #[.slice sa sn sc, .slice va vn vc] w fun e w' => e = .returned (.bool true) ∧ Below w.heap.size w w' := by
  have HT : Hid (Pt10 w ∧ Tb w) := ⟨hT, hTb⟩
  have HSU : Hid (Sl KT w (.slice sa sn sc) ts) := hs
  have HTS : Hid (∀ t ∈ ts, Bs w (.slice t.a t.bs.length t.c) t.bs) := hts
  have HV : Hid (Bs w (.slice va vn vc) xs0) := hv
  obtain ⟨hsn, hsc⟩ : sn = ts.length ∧ sn ≤ sc ∧ sc ≤ 9223372036854775807 := by
    obtain ⟨_, _, e, h1, h2, _⟩ := hs
    cases e
    exact ⟨rfl, h1, h2⟩
  obtain ⟨N, hN⟩ : ∃ N, N = ts.length := ⟨_, rfl⟩
  have HN : Hid (N = ts.length) := hN
  have hNN : N ≤ 9223372036854775807 := by omega
  rw [hsn, ← hN]
  have hvl := hv.len
  have HVL : Hid (vn = xs0.length ∧ vn ≤ vc ∧ vc ≤ 9223372036854775807) := hvl
  clear hT hTb hs hts hsn hN hv hvl
  go_enter Tryz.func7, Tryz.ntmps7
  go_wp2_with fail
  refine (awake_ok w HT.out.1 HT.out.2 HT.out.2.lt).mono ?_
  rintro e w1 ⟨rfl, b1⟩
  have HB1 := (show Hid _ from b1)
  clear b1
  go_wp2_with fail
  refine (new_any 20000 w1 (by omega) (by omega)).mono ?_
  rintro e w2 ⟨p, m, rfl, h2, b2⟩
  have HB2 : Hid (Below w.heap.size w w2) := HB1.out.trans (b2.mono HB1.out.size)
  have HBz : Hid (w.heap.size ≤ w1.heap.size) := HB1.out.size
  have HPT : Hid (PtB w1.heap.size w2 ∧ TbB w1.heap.size w2) := ⟨(ptB_of (HT.out.1.on HB1.out)).on b2, (tbB_of (HT.out.2.step HB1.out HT.out.2.lt) (Nat.le_trans HT.out.2.lt HB1.out.size)).on b2⟩
  have HD2 : Hid (Dst w2 w1.heap.size p m 20000 0 [] 1000 0 []) := dst_new h2 HPT.out.1 HPT.out.2 1000 (by omega)
  clear h2 b2
  unfold ptr
  generalize w1.heap.size = B at *
  go_wp2_with fail
  refine (open_st w2 B p m 20000 0 [] 1000 0 [] HD2.out (by simp)).mono ?_
  rintro e w3 ⟨lp, u, hlp, rfl, hg, hp, b3⟩
  have HB3 : Hid (Below w2.heap.size w2 w3) := b3
  have HLP : Hid (B ≤ lp) := Nat.le_trans HD2.out.da.lt hlp
  have HG3 : Hid (Lg w3 lp p (gst 1000 0 [] (List.replicate 32 0))) := hg
  have HD3 : Hid (Dst w3 B p m 20000 0 [] 1000 0 []) := HD2.out.step b3
  clear hlp hg hp b3
  go_wp2_with fail
  obtain ⟨q, hq⟩ : ∃ q, q = w3.heap.size := ⟨_, rfl⟩
  rw [← hq]
  have HW4 : Hid (VA (((w3.alloc (.cells #[.int .u8 1] 5)).alloc (.cells #[.slice (some ⟨q, 0, none⟩) 1 1] 22)).alloc (.cells #[.int .u8 1] 5)) q (cl [1]) 5 ∧ VA (((w3.alloc (.cells #[.int .u8 1] 5)).alloc (.cells #[.slice (some ⟨q, 0, none⟩) 1 1] 22)).alloc (.cells #[.int .u8 1] 5)) (q + 1) [.slice (some ⟨q, 0, none⟩) 1 1] 22 ∧ VA (((w3.alloc (.cells #[.int .u8 1] 5)).alloc (.cells #[.slice (some ⟨q, 0, none⟩) 1 1] 22)).alloc (.cells #[.int .u8 1] 5)) (q + 1 + 1) (cl [1]) 5 ∧ Below w3.heap.size w3 (((w3.alloc (.cells #[.int .u8 1] 5)).alloc (.cells #[.slice (some ⟨q, 0, none⟩) 1 1] 22)).alloc (.cells #[.int .u8 1] 5))) := (show _ ∧ _ ∧ _ ∧ _ from by
    have e1 : (w3.alloc (.cells #[.int .u8 1] 5)).heap.size = q + 1 := by rw [hq]; simp
    have e2 : ((w3.alloc (.cells #[.int .u8 1] 5)).alloc (.cells #[.slice (some ⟨q, 0, none⟩) 1 1] 22)).heap.size = q + 1 + 1 := by rw [hq]; simp
    have v1 := va_new w3 [.int .u8 1] 5
    rw [← hq] at v1
    have v2 := va_new (w3.alloc (.cells #[.int .u8 1] 5)) [.slice (some ⟨q, 0, none⟩) 1 1] 22
    rw [e1] at v2
    have v3 := va_new ((w3.alloc (.cells #[.int .u8 1] 5)).alloc (.cells #[.slice (some ⟨q, 0, none⟩) 1 1] 22)) [.int .u8 1] 5
    rw [e2] at v3
    have b1 := (Below.refl w3.heap.size w3).alloc (Nat.le_refl _) (.cells #[.int .u8 1] 5)
    have b2 := b1.alloc b1.size (.cells #[.slice (some ⟨q, 0, none⟩) 1 1] 22)
    exact ⟨(v1.alloc _).alloc _, v2.alloc _, v3, b2.alloc b2.size _⟩)
  have HQB : Hid (B ≤ q) := (show B ≤ q from by rw [hq]; exact HD3.out.da.lt)
  clear hq
  generalize ((w3.alloc (.cells #[.int .u8 1] 5)).alloc (.cells #[.slice (some ⟨q, 0, none⟩) 1 1] 22)).alloc (.cells #[.int .u8 1] 5) = w4 at *
  have by1 : By [1] := fun x hx => by have e : x = 1 := (by simpa using hx); omega
  have hb1 := bs_va (c := 1) HW4.out.1 by1 (by simp) (by omega)
  have hb3 := bs_va (c := 1) HW4.out.2.2.1 by1 (by simp) (by omega)
  have hs1 : SafeU w4 (.slice (some ⟨q, 0, none⟩) 1 1) := fun b off n' c' e => by cases e; exact ⟨_, _, HW4.out.1.blk⟩
  have hs3 : SafeU w4 (.slice (some ⟨q + 1 + 1, 0, none⟩) 1 1) := fun b off n' c' e => by cases e; exact ⟨_, _, HW4.out.2.2.1.blk⟩
  have HP4 : Hid (PayI w w4 B (.slice (some ⟨q + 1, 0, none⟩) 1 1) [[1]]) := ⟨[⟨some ⟨q, 0, none⟩, 1, [1]⟩], rfl, own_one _ [1] 1 HW4.out.2.1.blk (by have := HQB.out; omega), fun t ht => by
    rw [List.mem_singleton] at ht
    subst ht
    exact Or.inr ⟨hb1, hs1⟩⟩
  refine (append_st w4 B p m 20000 0 [] 1000 0 lp [] (List.replicate 32 0) (HD3.out.step HW4.out.2.2.2) (HG3.out.step HW4.out.2.2.2) l0_ok HLP.out _ [1] hb3 hs3.l (by simp) (by simp) (by omega) (by simp) (room_of (by simp) (by have e : cn4 ([1].length + 36) = 2 := rfl; rw [e]; decide))).mono ?_
  rintro e w6 ⟨rfl, hd, hl, hk, hb⟩
  obtain ⟨r0, hr0⟩ : ∃ x, x = mkR 1000 0 [] (List.replicate 32 0) [1] := ⟨_, rfl⟩
  rw [← hr0] at hd hl
  have hr1 : r0.1 = [1] := by rw [hr0]; simp only [mkR]
  have hr2 : r0.2.length = 32 := by rw [hr0, mkR_2]; exact chn_len _ _
  have HD6 := (show Hid _ from hd)
  have HG6 := (show Hid _ from hl)
  have HP6 : Hid (PayI w w6 B (.slice (some ⟨q + 1, 0, none⟩) 1 1) (([] ++ [r0] : List Rc).map (·.1))) := (show PayI _ _ _ _ _ from by rw [List.nil_append, List.map_singleton, hr1]; exact HP4.out.kl hk)
  have HB6 : Hid (Below B w2 w6) := (HB3.out.mono HD2.out.da.lt).trans ((HW4.out.2.2.2.mono HD3.out.da.lt).trans hb)
  have HS6 : Hid (totA (afs [] 1000 0 [] r0) ≤ 2 ∧ (afs [] 1000 0 [] r0).length ≤ 1 ∧ ([] ++ [r0]).length = 1) := (show _ ∧ _ ∧ _ from by
    have h1 := tot_afs_eq [] 1000 0 [] r0 hr2
    rw [hr1] at h1
    have h2 := len_afs [] 1000 0 [] r0
    exact ⟨by rw [h1]; decide, h2, rfl⟩)
  have hnum : 0 * 1000 + 1 + ([] : List Rc).length = 1 := rfl
  rw [hnum]
  obtain ⟨fs6, hfs6⟩ : ∃ z, z = afs [] 1000 0 [] r0 := ⟨_, rfl⟩
  obtain ⟨rs6, hrs6⟩ : ∃ z, z = [] ++ [r0] := ⟨_, rfl⟩
  rw [← hfs6] at HD6 HS6
  rw [← hrs6] at HD6 HS6 HG6 HP6
  clear hd hl hk hb HP4 HW4 HG3 HD3 hb1 hb3 hs1 hs3 hr0 hr1 hr2 hnum hfs6 hrs6 by1 HB3
  go_wp2_with fail
  go_loopw [10, 54] (fun want i wr => ∃ (k o : Nat) (fs : FS) (rs : List Rc), k ≤ N ∧ i = .int .i64 (k : Int) ∧ Hid (Dst wr B p m 20000 o fs 1000 0 rs) ∧ Hid (Lg wr lp p (gst 1000 0 rs (List.replicate 32 0))) ∧ Hid (totA fs ≤ 2 + 10 * min k 20 ∧ fs.length ≤ 1 + min k 20 ∧ rs.length ≤ 1 + min k 20 ∧ 0 < rs.length ∧ o ≤ 2 * (1 + min k 20)) ∧ Hid (PayI w wr B want (rs.map (·.1))) ∧ Hid (Below B w2 wr)) (fun _ i _ => N - (intOf i).toNat)
  case atStart => exact ⟨0, 2, fs6, rs6, Nat.zero_le _, rfl, HD6.out, HG6.out, ⟨HS6.out.1, HS6.out.2.1, by rw [HS6.out.2.2]; omega, by rw [HS6.out.2.2]; omega, by omega⟩, HP6.out, HB6.out⟩
  case round =>
    clear HD6 HG6 HB6 HS6 HP6
    obtain ⟨k, o, fs, rs, hkN, rfl, HD, HG, HS, HP, HBW⟩ := hrel
    have HWR : Hid (Below w.heap.size w wr) := HB2.out.trans (HBW.out.mono HBz.out)
    by_cases hlt : k < N
    rotate_left
    · have dk : (N : Int) ≤ (k : Int) := by omega
      obtain ⟨wa, wc, hwv, hwc⟩ := HP.out.form
      rw [List.length_map] at hwv hwc
      obtain ⟨WN, hWN⟩ : ∃ n, n = rs.length := ⟨_, rfl⟩
      rw [← hWN] at hwv hwc
      have HWN : Hid (WN = rs.length) := hWN
      subst hwv
      have hrs21 : rs.length ≤ 21 := by have := HS.out; omega
      have hw50 : WN ≤ 50 := by omega
      obtain ⟨t0, ht0, hf0⟩ := HD.out.fil.file 0 (by have := HS.out; omega)
      rw [Nat.zero_add] at ht0 hf0
      have HT0 : Hid (lk fs (nmS 0) = some t0 ∧ flat t0.2.1 = segB (0 * 1000 + 1) (sgt 1000 rs 0)) := ⟨ht0, hf0⟩
      obtain ⟨SZ, hSZ⟩ : ∃ SZ, SZ = t0.2.1.length := ⟨_, rfl⟩
      have HSZ : Hid (SZ = t0.2.1.length) := hSZ
      obtain ⟨V, hV⟩ : ∃ V, V = min vn 300 := ⟨_, rfl⟩
      have HXS : Hid (Bs w (.slice va V vc) (xs0.take V) ∧ (xs0.take V).length = V) := ⟨HV.out.cut V (by have := HVL.out; omega), by rw [List.length_take]; have := HVL.out; omega⟩
      obtain ⟨xs, hxs⟩ : ∃ xs, xs = xs0.take V := ⟨_, rfl⟩
      rw [← hxs] at HXS
      have hmin : ∀ w', (Builtin.min_ #[3, 3] 3 #[.int .i64 (vn : Int), .int .i64 300]).run Tryz.prog w' = .ok (.int .i64 (V : Int)) w' := fun w' => cut_min w' vn 300 V (by have := HVL.out; omega) hV
      have v1 : (V : Int) ≤ (vn : Int) := by omega
      have v2 : (V : Int) ≤ (vc : Int) := by have := HVL.out; omega
      have v3 : V ≤ 300 := by omega
      have v4 : vn ≤ vc ∧ vc ≤ 9223372036854775807 := ⟨HVL.out.2.1, HVL.out.2.2⟩
      have CS := size_any wr B p m _ HD.out.da ⟨#[108, 48, 48, 48, 48, 48, 48, 48, 48]⟩ (by decide)
      rw [nm0_eq, seen_on (x := ⟨20000, o, 0, true, none, fs⟩) (nmS_is 0) ht0 rfl] at CS
      have HCS := (show Hid _ from fun (_ : Unit) => CS)
      clear ht0 hf0 hSZ hV hxs hWN CS
      go_wp2_with fail
      refine Calls.mono (HCS.out ()) ?_
      rintro e w7 ⟨he, hw7⟩
      obtain rfl := hw7.symm
      obtain rfl : e = .returned (.tuple #[.int .i64 (SZ : Int), .int .i64 0]) := by
        rw [he, HSZ.out]
        rfl
      clear he hw7 HCS
      rcases Nat.eq_zero_or_pos V with hV0 | hV0
      · have HX0 : Hid (xs.getD 0 0 ≠ 177) := (show _ ≠ _ from by
          have h1 := HXS.out.2
          rw [hV0] at h1
          rw [List.eq_nil_of_length_eq_zero h1]
          decide)
        have dv : ¬ (0 : Int) < (V : Int) := by omega
        have dv' : (V : Int) ≤ 0 := by omega
        clear hV0
        go_wp2_with fail
        refine (twin_ok _ xs wr (HXS.out.1.step HWR.out) (by rw [HXS.out.2]; omega)).mono ?_
        rintro e w4 ⟨⟨u4, rfl, o4⟩, b4⟩
        have HO4 := (show Hid _ from o4)
        have HD4 : Hid (Dst w4 B p m 20000 o fs 1000 0 rs) := HD.out.step b4
        have HP4 : Hid (PayI w w4 B (.slice wa WN wc) (rs.map (·.1))) := HP.out.step b4
        have HBW4 : Hid (Below B w2 w4) := HBW.out.trans (b4.mono HD.out.da.lt)
        clear o4 b4 HD HG HP HBW
        go_wp2_with fail
        have E5 : apnd ⟨20000, o, 0, true, none, fs⟩ (nmS 0) xs = (0, ⟨20000, o + 1, 0, true, none, apd fs (nmS 0) (parts xs)⟩) := apnd_idle (nmS_is 0) (fitA_of (.inl (by rw [HT0.out.1]; rfl)) (by rw [HXS.out.2]; have := HS.out; unfold cnt; omega))
        refine (append_any w4 B p m _ HD4.out.da ⟨#[108, 48, 48, 48, 48, 48, 48, 48, 48]⟩ (by decide) u4 xs HO4.out.bs HO4.out.safe (by rw [HXS.out.2]; omega) (by show o ≤ _; have := HS.out; omega) (by show 0 ≤ _; omega)).mono ?_
        rintro e w5 ⟨he, h5⟩
        rw [nm0_eq, E5] at he h5
        obtain rfl : e = .returned (.int .i64 0) := he
        have HA5 : Hid (DA w5 B p m ⟨20000, o + 1, 0, true, none, apd fs (nmS 0) (parts xs)⟩) := h5.1
        have HP5 : Hid (PayI w w5 B (.slice wa WN wc) (rs.map (·.1))) := HP4.out.kl (Kee.kel h5.2.1)
        have HBW5 : Hid (Below B w2 w5) := HBW4.out.trans h5.2.2
        have HFT : Hid (FlsX (apd fs (nmS 0) (parts xs)) 1000 rs 1 (flat (parts xs)) ∧ Lks 1000 0 rs ∧ (∀ r ∈ rs, Rok r)) := ⟨flsX_tail HD4.out.fil HS.out.2.2.2.1 (by omega) xs, HD4.out.lks, HD4.out.rok⟩
        have HFN : Hid ((apd fs (nmS 0) (parts xs)).length ≤ 100) := (show _ ≤ 100 from by
          have h1 := nms_apd fs (nmS 0) (parts xs)
          have h2 := congrArg List.length h1
          unfold nms at h2
          rw [List.length_map] at h2
          have := HS.out
          rw [h2]
          split
          · rw [List.length_map]; omega
          · rw [List.length_append, List.length_map, List.length_singleton]; omega)
        clear h5 E5 HO4 HD4 HP4 HBW4
        go_wp2_with fail
        refine (open_rest w5 B p m _ 1000 rs 1 (flat (parts xs)) HA5.out rfl (HPT.out.1.on HBW5.out) (HPT.out.2.on HBW5.out) HFT.out.1 HFT.out.2.1 HFT.out.2.2 (by omega) HFN.out (fun h => by omega) (fun _ => bad_first _ (parts xs).length _ (flat_len _) (by rw [flat_first]; exact HX0.out)) (by show o + 1 ≤ _; have := HS.out; omega) (by show 0 ≤ _; omega)).mono ?_
        rintro e w6 ⟨hd6, hk6, hb6, hor⟩
        obtain ⟨o9, fs9, t9, hoc, hlk9, ht9⟩ := tail_cut (o + 1) fs rs xs t0 HT0.out.1 HT0.out.2
        rw [hoc] at hd6 hor
        rcases hor with ⟨_, l2, v, hl2, rfl, hg2, hp2⟩ | ⟨hne, _⟩
        rotate_left
        · exact absurd rfl hne
        have HD6 : Hid (DA w6 B p m ⟨20000, o9, 0, true, none, fs9⟩) := hd6
        have HBW6 : Hid (Below B w2 w6) := HBW5.out.trans hb6
        have HP6 : Hid (PayI w w6 B (.slice wa WN wc) (rs.map (·.1))) := HP5.out.kl hk6
        have HG6 : Hid (Lg w6 l2 p ((gst 1000 0 rs (List.replicate 32 0)).hi 0)) := hg2
        obtain ⟨t1, et1, hr1⟩ := hp2.rws
        obtain ⟨t2, et2, hr2⟩ := HP6.out.rws (HB2.out.trans (HBW6.out.mono HBz.out))
        have HSA := (show Hid _ from fun (_ : Unit) => sameL_ok w6 v (.slice wa WN wc) t1 t2 hr1 hr2 (et1.trans et2.symm))
        have CS := size_any w6 B p m _ hd6 ⟨#[108, 48, 48, 48, 48, 48, 48, 48, 48]⟩ (by decide)
        rw [nm0_eq, seen_on (x := ⟨20000, o9, 0, true, none, fs9⟩) (nmS_is 0) hlk9 rfl] at CS
        have HCS := (show Hid _ from fun (_ : Unit) => CS)
        have HT9 : Hid (((t9.2.1.length : Nat) : Int) = (SZ : Int)) := (show _ = _ from by rw [ht9, HSZ.out])
        clear hd6 hk6 hb6 hoc hlk9 ht9 hl2 hg2 hp2 et1 hr1 et2 hr2 CS HA5 HP5 HBW5 HFT HFN
        go_wp2_with fail
        refine Calls.mono (HCS.out ()) ?_
        rintro e w7 ⟨he, hw7⟩
        obtain rfl := hw7.symm
        obtain rfl : e = .returned (.tuple #[.int .i64 (SZ : Int), .int .i64 0]) := by
          rw [he]
          show Ending.returned (.tuple #[.int .i64 ((t9.2.1.length : Nat) : Int), .int .i64 0]) = _
          rw [HT9.out]
        clear he hw7 HCS
        go_wp2_with fail
        refine Calls.mono (HSA.out ()) ?_
        rintro e w8 ⟨rfl, b8⟩
        have HBW8 : Hid (Below B w2 w8) := HBW6.out.trans (b8.mono HD6.out.lt)
        have hg8 := HG6.out.step b8
        have HNX := (show Hid _ from fun (_ : Unit) => next_ok w8 l2 p _ hg8)
        obtain ⟨X, hX⟩ : ∃ X : Nat, (WN : Int) + 1 = (X : Int) := ⟨WN + 1, by omega⟩
        rw [show ((gst 1000 0 rs (List.replicate 32 0)).hi 0).next = X from by show (gst 1000 0 rs (List.replicate 32 0)).next = X; rw [gst_next]; have := HWN.out; omega] at HNX
        clear b8 hg8 HG6 HSA HBW6 HP6 HD6
        go_wp2_with fail
        refine Calls.mono (HNX.out ()) ?_
        rintro e w9 ⟨rfl, hw9⟩
        obtain rfl := hw9.symm
        go_wp2_with fail
        go_ret
        exact ⟨rfl, HB2.out.trans (HBW8.out.mono HBz.out)⟩
      · have dv : (0 : Int) < (V : Int) := by omega
        obtain ⟨vb, vo, rfl, hvb, hvx⟩ : ∃ b off, va = some ⟨b, off, none⟩ ∧ b < w.heap.size ∧ ∀ k, k < xs.length → w.cell? ⟨b, off + k, none⟩ = some (.int .u8 (bt xs k)) := by
          obtain ⟨_, a', c', e, _, _, _, h4⟩ := HXS.out.1
          have h5 := h4 (by rw [HXS.out.2]; omega)
          injection e with e1 _ _
          rw [e1]
          exact h5
        obtain ⟨x0, hx0⟩ : ∃ x, x = xs.getD 0 0 := ⟨_, rfl⟩
        have y0 : wr.cell? ⟨vb, vo, none⟩ = some (.int .u8 (x0 : Int)) := by
          have h1 := hvx 0 (by rw [HXS.out.2]; omega)
          rw [Nat.add_zero] at h1
          rw [HWR.out.cell (p := ⟨vb, vo, none⟩) hvb, h1, hx0]
          rfl
        have hx256 : x0 < 256 := by
          rw [hx0, List.getD_eq_getElem?_getD, List.getElem?_eq_getElem (show 0 < xs.length by rw [HXS.out.2]; omega)]
          exact HXS.out.1.byte _ (List.getElem_mem _)
        by_cases hb1 : x0 = 177
        · clear hx0 hvx
          subst hb1
          clear hV0
          go_wp2_with fail
          go_ret
          exact ⟨rfl, HB2.out.trans (HBW.out.mono HBz.out)⟩
        · have HX0 : Hid (xs.getD 0 0 ≠ 177) := (show _ ≠ _ from by rw [← hx0]; exact hb1)
          have e9 : ((x0 : Int) = 177) = False := eq_false (by omega)
          have e10 : ((x0 : Int) == 177) = false := by simp; omega
          clear hx0 hvx hb1 hV0
          go_wp2_with fail
          refine (twin_ok _ xs wr (HXS.out.1.step HWR.out) (by rw [HXS.out.2]; omega)).mono ?_
          rintro e w4 ⟨⟨u4, rfl, o4⟩, b4⟩
          have HO4 := (show Hid _ from o4)
          have HD4 : Hid (Dst w4 B p m 20000 o fs 1000 0 rs) := HD.out.step b4
          have HP4 : Hid (PayI w w4 B (.slice wa WN wc) (rs.map (·.1))) := HP.out.step b4
          have HBW4 : Hid (Below B w2 w4) := HBW.out.trans (b4.mono HD.out.da.lt)
          clear o4 b4 HD HG HP HBW
          go_wp2_with fail
          have E5 : apnd ⟨20000, o, 0, true, none, fs⟩ (nmS 0) xs = (0, ⟨20000, o + 1, 0, true, none, apd fs (nmS 0) (parts xs)⟩) := apnd_idle (nmS_is 0) (fitA_of (.inl (by rw [HT0.out.1]; rfl)) (by rw [HXS.out.2]; have := HS.out; unfold cnt; omega))
          refine (append_any w4 B p m _ HD4.out.da ⟨#[108, 48, 48, 48, 48, 48, 48, 48, 48]⟩ (by decide) u4 xs HO4.out.bs HO4.out.safe (by rw [HXS.out.2]; omega) (by show o ≤ _; have := HS.out; omega) (by show 0 ≤ _; omega)).mono ?_
          rintro e w5 ⟨he, h5⟩
          rw [nm0_eq, E5] at he h5
          obtain rfl : e = .returned (.int .i64 0) := he
          have HA5 : Hid (DA w5 B p m ⟨20000, o + 1, 0, true, none, apd fs (nmS 0) (parts xs)⟩) := h5.1
          have HP5 : Hid (PayI w w5 B (.slice wa WN wc) (rs.map (·.1))) := HP4.out.kl (Kee.kel h5.2.1)
          have HBW5 : Hid (Below B w2 w5) := HBW4.out.trans h5.2.2
          have HFT : Hid (FlsX (apd fs (nmS 0) (parts xs)) 1000 rs 1 (flat (parts xs)) ∧ Lks 1000 0 rs ∧ (∀ r ∈ rs, Rok r)) := ⟨flsX_tail HD4.out.fil HS.out.2.2.2.1 (by omega) xs, HD4.out.lks, HD4.out.rok⟩
          have HFN : Hid ((apd fs (nmS 0) (parts xs)).length ≤ 100) := (show _ ≤ 100 from by
            have h1 := nms_apd fs (nmS 0) (parts xs)
            have h2 := congrArg List.length h1
            unfold nms at h2
            rw [List.length_map] at h2
            have := HS.out
            rw [h2]
            split
            · rw [List.length_map]; omega
            · rw [List.length_append, List.length_map, List.length_singleton]; omega)
          clear h5 E5 HO4 HD4 HP4 HBW4
          go_wp2_with fail
          refine (open_rest w5 B p m _ 1000 rs 1 (flat (parts xs)) HA5.out rfl (HPT.out.1.on HBW5.out) (HPT.out.2.on HBW5.out) HFT.out.1 HFT.out.2.1 HFT.out.2.2 (by omega) HFN.out (fun h => by omega) (fun _ => bad_first _ (parts xs).length _ (flat_len _) (by rw [flat_first]; exact HX0.out)) (by show o + 1 ≤ _; have := HS.out; omega) (by show 0 ≤ _; omega)).mono ?_
          rintro e w6 ⟨hd6, hk6, hb6, hor⟩
          obtain ⟨o9, fs9, t9, hoc, hlk9, ht9⟩ := tail_cut (o + 1) fs rs xs t0 HT0.out.1 HT0.out.2
          rw [hoc] at hd6 hor
          rcases hor with ⟨_, l2, v, hl2, rfl, hg2, hp2⟩ | ⟨hne, _⟩
          rotate_left
          · exact absurd rfl hne
          have HD6 : Hid (DA w6 B p m ⟨20000, o9, 0, true, none, fs9⟩) := hd6
          have HBW6 : Hid (Below B w2 w6) := HBW5.out.trans hb6
          have HP6 : Hid (PayI w w6 B (.slice wa WN wc) (rs.map (·.1))) := HP5.out.kl hk6
          have HG6 : Hid (Lg w6 l2 p ((gst 1000 0 rs (List.replicate 32 0)).hi 0)) := hg2
          obtain ⟨t1, et1, hr1⟩ := hp2.rws
          obtain ⟨t2, et2, hr2⟩ := HP6.out.rws (HB2.out.trans (HBW6.out.mono HBz.out))
          have HSA := (show Hid _ from fun (_ : Unit) => sameL_ok w6 v (.slice wa WN wc) t1 t2 hr1 hr2 (et1.trans et2.symm))
          have CS := size_any w6 B p m _ hd6 ⟨#[108, 48, 48, 48, 48, 48, 48, 48, 48]⟩ (by decide)
          rw [nm0_eq, seen_on (x := ⟨20000, o9, 0, true, none, fs9⟩) (nmS_is 0) hlk9 rfl] at CS
          have HCS := (show Hid _ from fun (_ : Unit) => CS)
          have HT9 : Hid (((t9.2.1.length : Nat) : Int) = (SZ : Int)) := (show _ = _ from by rw [ht9, HSZ.out])
          clear hd6 hk6 hb6 hoc hlk9 ht9 hl2 hg2 hp2 et1 hr1 et2 hr2 CS HA5 HP5 HBW5 HFT HFN
          go_wp2_with fail
          refine Calls.mono (HCS.out ()) ?_
          rintro e w7 ⟨he, hw7⟩
          obtain rfl := hw7.symm
          obtain rfl : e = .returned (.tuple #[.int .i64 (SZ : Int), .int .i64 0]) := by
            rw [he]
            show Ending.returned (.tuple #[.int .i64 ((t9.2.1.length : Nat) : Int), .int .i64 0]) = _
            rw [HT9.out]
          clear he hw7 HCS
          go_wp2_with fail
          refine Calls.mono (HSA.out ()) ?_
          rintro e w8 ⟨rfl, b8⟩
          have HBW8 : Hid (Below B w2 w8) := HBW6.out.trans (b8.mono HD6.out.lt)
          have hg8 := HG6.out.step b8
          have HNX := (show Hid _ from fun (_ : Unit) => next_ok w8 l2 p _ hg8)
          obtain ⟨X, hX⟩ : ∃ X : Nat, (WN : Int) + 1 = (X : Int) := ⟨WN + 1, by omega⟩
          rw [show ((gst 1000 0 rs (List.replicate 32 0)).hi 0).next = X from by show (gst 1000 0 rs (List.replicate 32 0)).next = X; rw [gst_next]; have := HWN.out; omega] at HNX
          clear b8 hg8 HG6 HSA HBW6 HP6 HD6
          go_wp2_with fail
          refine Calls.mono (HNX.out ()) ?_
          rintro e w9 ⟨rfl, hw9⟩
          obtain rfl := hw9.symm
          go_wp2_with fail
          go_ret
          exact ⟨rfl, HB2.out.trans (HBW8.out.mono HBz.out)⟩
    have dk : (k : Int) < (N : Int) := by omega
    obtain ⟨tk, htk⟩ : ∃ x, ts[k]? = some x := ⟨_, List.getElem?_eq_getElem (by rw [← HN.out]; exact hlt)⟩
    have HTK : Hid (Bs w (.slice tk.a tk.bs.length tk.c) tk.bs) := HTS.out tk (List.mem_of_getElem? htk)
    obtain ⟨sb, so, rfl, hsb, hsc2⟩ := HSU.out.at k tk htk
    obtain ⟨ta, tc, tb⟩ := tk
    have HTK' : Hid (Bs w (.slice ta tb.length tc) tb) := HTK.out
    have yk0 : w.cell? ⟨sb, so + k, none⟩ = some (.slice ta tb.length tc) := by
      have h1 := hsc2 0 (.slice ta tb.length tc) rfl
      rw [show k * KT.k = k from Nat.mul_one k, Nat.add_zero] at h1
      exact h1
    have yk : wr.cell? ⟨sb, so + k, none⟩ = some (.slice ta tb.length tc) := (HWR.out.cell (p := ⟨sb, so + k, none⟩) hsb).trans yk0
    obtain ⟨tn, htn⟩ : ∃ n, n = tb.length := ⟨_, rfl⟩
    rw [← htn] at yk
    have htl := HTK'.out.len
    clear yk0 hsc2 HTK
    by_cases h20 : k < 20
    rotate_left
    · have d20 : (20 : Int) ≤ (k : Int) := by omega
      have HM : Hid (min (k + 1) 20 = min k 20) := (show min (k + 1) 20 = min k 20 from by omega)
      clear htn htl h20
      go_wp2_with fail
      go_roundw
      case rel => exact ⟨k + 1, o, fs, rs, by omega, by go_num, HD.out, HG.out, ⟨by rw [HM.out]; exact HS.out.1, by rw [HM.out]; exact HS.out.2.1, by rw [HM.out]; exact HS.out.2.2.1, HS.out.2.2.2.1, by rw [HM.out]; exact HS.out.2.2.2.2⟩, HP.out, HBW.out⟩
      case measure => simp [intOf]; omega
    have d20 : (k : Int) < 20 := by omega
    have HMN : Hid (min (k + 1) 20 = min k 20 + 1) := (show min (k + 1) 20 = min k 20 + 1 from by omega)
    rcases Nat.eq_zero_or_pos tn with ht0 | ht0
    · have d0 : ¬ (0 : Int) < (tn : Int) := by omega
      have d0' : (tn : Int) ≤ 0 := by omega
      clear htn htl ht0
      go_wp2_with fail
      go_roundw
      case rel => exact ⟨k + 1, o, fs, rs, by omega, by go_num, HD.out, HG.out, ⟨by have := HS.out; have := HMN.out; omega, by have := HS.out; have := HMN.out; omega, by have := HS.out; have := HMN.out; omega, HS.out.2.2.2.1, by have := HS.out; have := HMN.out; omega⟩, HP.out, HBW.out⟩
      case measure => simp [intOf]; omega
    have d0 : (0 : Int) < (tn : Int) := by omega
    obtain ⟨M, hM⟩ : ∃ M, M = min tn 200 := ⟨_, rfl⟩
    have hM0 : 0 < M := by omega
    have HPS : Hid (Bs w (.slice ta M tc) (tb.take M) ∧ (tb.take M).length = M) := ⟨by have h1 := HTK'.out; rw [← htn] at h1; exact h1.cut M (by omega), by rw [List.length_take]; omega⟩
    obtain ⟨ps, hps⟩ : ∃ ps, ps = tb.take M := ⟨_, rfl⟩
    rw [← hps] at HPS
    have hmin2 : ∀ w', (Builtin.min_ #[3, 3] 3 #[.int .i64 (tn : Int), .int .i64 200]).run Tryz.prog w' = .ok (.int .i64 (M : Int)) w' := fun w' => cut_min w' tn 200 M (by omega) hM
    have e1 : (M : Int) ≤ (tn : Int) := by omega
    have e2 : (M : Int) ≤ (tc : Int) := by omega
    have e3 : M ≤ 200 := by omega
    have e4 : tn ≤ tc ∧ tc ≤ 9223372036854775807 := by omega
    clear htn htl hM hps HTK' ht0
    go_wp2_with fail
    refine (twin_ok _ ps wr (HPS.out.1.step HWR.out) (by rw [HPS.out.2]; omega)).mono ?_
    rintro e w4 ⟨⟨u4, rfl, o4⟩, b4⟩
    have HO4 := (show Hid _ from o4)
    have HD4 : Hid (Dst w4 B p m 20000 o fs 1000 0 rs) := HD.out.step b4
    have HG4 : Hid (Lg w4 lp p (gst 1000 0 rs (List.replicate 32 0))) := HG.out.step b4
    have HP4 : Hid (PayI w w4 B u10 (rs.map (·.1))) := HP.out.step b4
    have HBW4 : Hid (Below B w2 w4) := HBW.out.trans (b4.mono HD.out.da.lt)
    clear o4 b4 HD HG HP HBW yk
    go_wp2_with fail
    have hc4 : cn4 (M + 36) ≤ 10 := by unfold cn4; omega
    refine (append_st w4 B p m 20000 o fs 1000 0 lp rs (List.replicate 32 0) HD4.out HG4.out l0_ok HLP.out _ ps HO4.out.bs HO4.out.safeL (by rw [HPS.out.2]; omega) (by rw [HPS.out.2]; omega) (by have := HS.out; omega) (by have := HS.out; omega) (room_of (by have := HS.out; omega) (by rw [HPS.out.2]; have := HS.out; omega))).mono ?_
    rintro e w6 ⟨rfl, hd, hl, hk, hb⟩
    obtain ⟨ru, hru⟩ : ∃ x, x = mkR 1000 0 rs (List.replicate 32 0) ps := ⟨_, rfl⟩
    rw [← hru] at hd hl
    have hr1 : ru.1 = ps := by rw [hru]; simp only [mkR]
    have hr2 : ru.2.length = 32 := by rw [hru, mkR_2]; exact chn_len _ _
    have HD6 := (show Hid _ from hd)
    have HG6 := (show Hid _ from hl)
    have HP6 : Hid (PayI w w6 B u10 (rs.map (·.1))) := HP4.out.kl hk
    have HBW6 : Hid (Below B w2 w6) := HBW4.out.trans hb
    have HSZ : Hid (B ≤ w6.heap.size) := HD6.out.da.lt
    have HLR : Hid ((rs.map (·.1)).length ≤ 1000000) := (show (rs.map (·.1)).length ≤ 1000000 from by rw [List.length_map]; have := HS.out; omega)
    have HS7 : Hid (totA (afs fs 1000 0 rs ru) ≤ 2 + 10 * min (k + 1) 20 ∧ (afs fs 1000 0 rs ru).length ≤ 1 + min (k + 1) 20 ∧ (rs ++ [ru]).length ≤ 1 + min (k + 1) 20 ∧ 0 < (rs ++ [ru]).length ∧ o + 1 + 1 ≤ 2 * (1 + min (k + 1) 20)) := (show _ ∧ _ ∧ _ ∧ _ ∧ _ from by
      have h1 := tot_afs_eq fs 1000 0 rs ru hr2
      rw [hr1, HPS.out.2] at h1
      have h2 := len_afs fs 1000 0 rs ru
      have h3 := HS.out
      rw [HMN.out, List.length_append, List.length_singleton]
      exact ⟨by omega, by omega, by omega, by omega, by omega⟩)
    have HPL : Hid ((rs ++ [ru]).map (·.1) = rs.map (·.1) ++ [ps]) := (show _ = _ from by rw [List.map_append, List.map_singleton, hr1])
    obtain ⟨num, hnum⟩ : ∃ z, z = 0 * 1000 + 1 + rs.length := ⟨_, rfl⟩
    rw [← hnum]
    clear hd hl hk hb HD4 HG4 HP4 HBW4 HO4 hnum hru hr1 hr2
    go_wp2_with (at_builtin; refine appWantI (by rfl) _ _ rfl w B (rs.map (·.1)) u10 ta M tc ps (by rfl) (by rfl) HP6.out (Or.inl HPS.out.1) HSZ.out HLR.out ?_; intro v7 w7 hp7 hb7 hk7)
    have HP7 : Hid (PayI w w7 B v7 ((rs ++ [ru]).map (·.1))) := (show PayI _ _ _ _ _ from by rw [HPL.out]; exact hp7)
    have HD7 := (show Hid _ from HD6.out.kep hk7 hb7)
    have HG7 : Hid (Lg w7 lp p (gst 1000 0 (rs ++ [ru]) (List.replicate 32 0))) := Lg.kep HG6.out hk7
    have HBW7 : Hid (Below B w2 w7) := HBW6.out.trans hb7
    clear hp7 hb7 hk7 HP6 HD6 HG6 HBW6
    go_wp2_with fail
    go_roundw
    case rel => exact ⟨k + 1, o + 1 + 1, afs fs 1000 0 rs ru, rs ++ [ru], by omega, by go_num, HD7.out, HG7.out, HS7.out, HP7.out, HBW7.out⟩
    case measure => simp [intOf]; omega
end Go.Proofs.YtkmdegmpffgplaaGreatDoor
