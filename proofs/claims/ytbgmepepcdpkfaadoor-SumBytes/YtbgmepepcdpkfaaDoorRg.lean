/- sum: the document's Sha: its beginning. -/
import Derived.Test.YtbgmepepcdpkfaaDoorRh
import Derived.Test.YtbgmepepcdpkfaaDoorGy
namespace Go.Proofs.YtbgmepepcdpkfaaDoor
open Go.RowKit
set_option linter.unusedVariables false

set_option linter.unusedSimpArgs false
set_option maxHeartbeats 40000000 in
set_option maxRecDepth 1000000 in
theorem rsha_ok (v : Value) (bs : List Nat) (w : World) (h : Bs w v bs) (hl : bs.length + 200 ≤ 140737488355328) :
    Calls Tryd.prog 12 #[v] w fun e w' => e = .returned (.agg (cl (sha bs)).toArray) ∧ Below w.heap.size w w' := by
  obtain ⟨L, hL⟩ : ∃ L, L = bs.length := ⟨_, rfl⟩
  obtain ⟨va, vc, rfl⟩ : ∃ a c, v = .slice a L c := by obtain ⟨_, a, c, e, _⟩ := h; exact ⟨a, c, by rw [hL]; exact e⟩
  have H := (show Hid _ from h)
  have HLN := (show Hid _ from hl)
  have HL := (show Hid _ from hL)
  have D1 := (show Hid _ from (Below.refl w.heap.size w).alloc (Nat.le_refl _) (.cells #[Value.int .u8 0, Value.int .u8 0, Value.int .u8 0, Value.int .u8 0, Value.int .u8 0, Value.int .u8 0, Value.int .u8 0, Value.int .u8 0, Value.int .u8 0, Value.int .u8 0, Value.int .u8 0, Value.int .u8 0, Value.int .u8 0, Value.int .u8 0, Value.int .u8 0, Value.int .u8 0, Value.int .u8 0, Value.int .u8 0, Value.int .u8 0, Value.int .u8 0, Value.int .u8 0, Value.int .u8 0, Value.int .u8 0, Value.int .u8 0, Value.int .u8 0, Value.int .u8 0, Value.int .u8 0, Value.int .u8 0, Value.int .u8 0, Value.int .u8 0, Value.int .u8 0, Value.int .u8 0] 23))
  have A1 := (show Hid _ from va_new w (cl (List.replicate 32 0)) 23)
  clear h hl hL
  go_enter Tryd.func12, Tryd.ntmps12
  go_wp2_with fail
  refine (known_ok _).mono ?_
  rintro e w2 ⟨rfl, b2⟩
  have D2 := (show Hid _ from D1.out.trans (b2.mono D1.out.size))
  have A2 := (show Hid _ from A1.out.step b2)
  have l2 : w.heap.size < w2.heap.size := A2.out.lt
  clear b2 D1 A1
  go_upto_region 2 with (refine stA rfl 33 _ _ rfl w2.heap.size (by rfl) (cw (List.replicate 64 0)) (cw rts) (by rfl) 33 (va_new w2 (cw (List.replicate 64 0)) 33) (info33.trans rfl) rfl (fun v hv => cw_one hv) ?_; intro w3 V3 U3; have D3 := (show Hid _ from U3.bel (D2.out.alloc D2.out.size (.cells (cw (List.replicate 64 0)).toArray 33)) (by omega)); have A3 := (show Hid _ from (A2.out.alloc (.cells (cw (List.replicate 64 0)).toArray 33)).upd U3 (by omega)); have K3 := (show Hid _ from V3); have l3 : w2.heap.size < w3.heap.size := V3.lt; clear V3 U3 D2 A2)
  have D4 := (show Hid _ from D3.out.alloc D3.out.size (.cells (cq fst8).toArray 41))
  have A4 := (show Hid _ from A3.out.alloc (.cells (cq fst8).toArray 41))
  have K4 := (show Hid _ from K3.out.alloc (.cells (cq fst8).toArray 41))
  have G4 := (show Hid _ from va_new w3 (cq fst8) 41)
  clear D3 A3 K3
  go_upto_region 3 with fail
  obtain ⟨w4, hw4⟩ : ∃ w4, w4 = w3.alloc (.cells (cq fst8).toArray 41) := ⟨_, rfl⟩
  have e4 : w3.alloc (.cells #[.int .u64 1779033703, .int .u64 3144134277, .int .u64 1013904242, .int .u64 2773480762, .int .u64 1359893119, .int .u64 2600822924, .int .u64 528734635, .int .u64 1541459225] 41) = w4 := hw4.symm
  rw [e4]
  rw [← hw4] at D4 A4 K4 G4
  clear e4 hw4
  have l4 : w3.heap.size < w4.heap.size := G4.out.lt
  have hb := (Below.refl w4.heap.size w4).alloc (Nat.le_refl _) (.cells #[] 5)
  have H4 := (show Hid _ from (H.out.step D4.out).step hb)
  have HO := (show Hid _ from own_made w4)
  have HB := (show Hid _ from hb)
  clear hb
  go_wp2_with (first
    | (at_builtin; refine appB rfl _ _ rfl w4.heap.size [] bs _ _ (by rfl) (by rfl) HO.out H4.out (by simp) (by have := HLN.out; simp; omega) ?_; intro v' w5 ho hb1; rw [List.nil_append] at ho; have HO1 := (show Hid _ from ho); have HB1 := (show Hid _ from HB.out.trans hb1); have l5 := HB1.out.size; clear ho hb1 HO H4 HB)
    | (at_builtin; refine appB1 rfl _ _ rfl w4.heap.size bs _ _ 128 (by rfl) (by rfl) rfl (by omega) HO1.out l5 (by have := HLN.out; omega) ?_; intro v2 w6 ho hb2; have HO2 : Hid (OwnB w6 w4.heap.size v2 (marked bs 0)) := ho; have HB2 := (show Hid _ from HB1.out.trans hb2); clear ho hb2 HO1 HB1))
  go_loopw [5] (fun s wr => ∃ k : Nat, k ≤ nz bs ∧ Hid (OwnB wr w4.heap.size s (marked bs k) ∧ Below w4.heap.size w4 wr)) (fun s _ => match s with | .slice _ n _ => L + 200 - n | _ => 0)
  case atStart => exact ⟨0, Nat.zero_le _, HO2.out, HB2.out⟩
  case round =>
    obtain ⟨k, hk, K⟩ := hrel
    have hml : (marked bs k).length = L + 1 + k := by rw [marked_len, HL.out]
    obtain ⟨sa, sc, rfl, hsc⟩ : ∃ a c, u5 = .slice a (L + 1 + k) c ∧ L + 1 + k ≤ c ∧ c ≤ 9223372036854775807 := by
      obtain ⟨_, a, c, e, h1, h2, _⟩ := K.out.1.bs
      exact ⟨a, c, by rw [e, hml], by omega, h2⟩
    have hnz := nz_mod bs
    rw [← HL.out] at hnz
    have hlk : L + 1 + k ≤ 9223372036854775807 := by omega
    by_cases hkz : k = nz bs
    · subst hkz
      have hd : (((L : Int) + 1 + (nz bs : Int)) % 64 != 56) = false := by
        have := hnz.1
        simp
        omega
      have HNZ := (show Hid _ from hnz.1)
      have HM := (show Hid _ from hml)
      have O7 := (show Hid _ from K.out.1)
      have B7 := (show Hid _ from K.out.2)
      have l7 := B7.out.size
      have hLb : L ≤ 140737488355128 := by have := HLN.out; have := HL.out; omega
      have hz : nz bs ≤ 128 := by
        unfold nz
        rcases tailZ_eq bs with ⟨h1, h2⟩ | ⟨h1, h2⟩ <;> omega
      clear K hnz hml hk HO2 HB2
      generalize wr = wm at *
      go_upto_region 8 with (refine mkB rfl _ _ rfl 8 8 8 8 (by rfl) (by rfl) rfl rfl (by omega) (by omega) ?_; intro w8 v8 b8 z8)
      have V8 : Hid (VA w8 wm.heap.size (cl (tl8 (8 * L) 0)) 5) := ⟨v8.out⟩
      have D8 := (show Hid _ from B7.out.trans (b8.mono B7.out.size))
      have HB8 := (show Hid _ from b8)
      clear v8 b8
      go_wp2_with fail
      go_loopw [6, 8] (fun n i wq => ∃ j : Nat, j ≤ 8 ∧ n = .int .u64 ((8 * L / 256 ^ (8 - j) : Nat) : Int) ∧ i = .int .i64 ((j : Int) - 1) ∧ Hid (VA wq wm.heap.size (cl (tl8 (8 * L) (8 - j))) 5 ∧ Upd wm.heap.size w8 wq)) (fun _ i _ => (intOf i + 1).toNat)
      case atStart => exact ⟨8, by omega, by simp, rfl, V8.out, rfl, rfl, rfl, rfl, fun _ _ => rfl⟩
      case round =>
        obtain ⟨j, hj, rfl, rfl, K⟩ := hrel
        by_cases hj0 : j = 0
        · subst hj0
          have V9 : Hid (VA wr wm.heap.size (cl (be8 (8 * L))) 5) := K.out.1
          have B9 := (show Hid _ from K.out.2.bel HB8.out (Nat.le_refl _))
          have O9 := (show Hid _ from O7.out.step B9.out)
          have X9 : Hid (Bs wr (.slice (some ⟨wm.heap.size, 0, none⟩) 8 8) (be8 (8 * L))) := V9.out.bs rfl (by omega) (tl8_by (8 * L) 8)
          have l9 : w4.heap.size ≤ wr.heap.size := by have := B9.out.size; omega
          have D9 := (show Hid _ from B7.out.trans (B9.out.mono B7.out.size))
          clear K V9 B9
          go_upto_region 14 with (at_builtin; refine appB rfl _ _ rfl w4.heap.size (marked bs (nz bs)) (be8 (8 * L)) _ _ (by rfl) (by rfl) O9.out X9.out l9 (by have := HM.out; rw [this]; show L + 1 + nz bs + 8 ≤ 140737488355328; omega) ?_; intro v10 w10 o10 b10; have O10 := (show Hid _ from o10); have D10 := (show Hid _ from D9.out.trans b10); clear o10 b10 O9 X9 D9)
          obtain ⟨TX, hTX⟩ : ∃ TX, TX = marked bs (nz bs) ++ be8 (8 * L) := ⟨_, rfl⟩
          have HTX := (show Hid _ from hTX)
          rw [← hTX] at O10
          have BYT : Hid (By TX) := O10.out.byte
          obtain ⟨M, hM⟩ : ∃ M, M = L / 64 + tailZ bs / 64 := ⟨_, rfl⟩
          have HMM := (show Hid _ from hM)
          have hTL : TX.length = 64 * M := by rw [hTX, hM, HL.out]; exact blocks bs
          have HTL := (show Hid _ from hTL)
          have hM0 : 0 < M := by
            rw [hM]
            rcases tailZ_eq bs with ⟨_, h⟩ | ⟨_, h⟩ <;> omega
          have hMb : 64 * M ≤ 140737488355328 := by
            rw [hM]
            rcases tailZ_eq bs with ⟨_, h⟩ | ⟨_, h⟩ <;> omega
          obtain ⟨g, cap, rfl, hg1, hg2, hg3, hg4⟩ : ∃ g cap, v10 = .slice (some ⟨g, 0, none⟩) (64 * M) cap ∧ w4.heap.size ≤ g ∧ g < w10.heap.size ∧ 64 * M ≤ cap ∧ cap ≤ 9223372036854775807 := by
            rcases O10.out.head with ⟨_, h⟩ | ⟨g, cap, e, h1, h2, h3, h4⟩
            · rw [h] at hTL; simp at hTL; omega
            · rw [hTL] at e h3
              exact ⟨g, cap, e, h1, h2, h3, h4⟩
          have G10 := (show Hid _ from G4.out.step D10.out)
          have K10 := (show Hid _ from K4.out.step D10.out)
          have A10 := (show Hid _ from A4.out.step D10.out)
          have E10 := (show Hid _ from D4.out.trans (D10.out.mono D4.out.size))
          have s10 : Hid (w4.heap.size ≤ w10.heap.size) := D10.out.size
          clear G4 K4 A4 D4 D10 H O7 B7 V8 D8 HB8 hTL hTX hM hsc hlk hd HNZ HM
          generalize w3.heap.size = hB at *
          generalize w2.heap.size = kB at *
          generalize w4.heap.size = N4 at *
          go_wp2_with fail
          go_loopw [9] (fun ax wr => ∃ b : Nat, b ≤ M ∧ ax = .int .i64 (64 * (b : Int)) ∧ Hid (VA wr hB (cq (shB fst8 TX b)) 41 ∧ VA wr kB (cw rts) 33 ∧ VA wr w.heap.size (cl (List.replicate 32 0)) 23 ∧ OwnB wr N4 (.slice (some ⟨g, 0, none⟩) (64 * M) cap) TX ∧ Below w.heap.size w wr ∧ N4 ≤ wr.heap.size)) (fun ax _ => 64 * M - (intOf ax).toNat)
          case atStart => exact ⟨0, by omega, by simp, G10.out, K10.out, A10.out, O10.out, E10.out, s10.out⟩
          case round =>
            obtain ⟨b, hb, rfl, R⟩ := hrel
            clear G10 K10 A10 O10 E10 s10
            by_cases hbM : b = M
            · as_aux_lemma =>
                subst hbM
                obtain ⟨SS, hSS⟩ : ∃ SS, SS = shB fst8 TX b := ⟨_, rfl⟩
                have W8S : Hid (W8 SS) := by rw [hSS]; exact shB_w8 fst_w8 TX b
                have HSHA : Hid (sha bs = orr SS 32) := by
                  show sha bs = _
                  rw [sha_all, orr_32, hSS, HTX.out, HMM.out, HL.out]
                obtain ⟨r1, r2, r3, r4, r5, r6⟩ := R.out
                rw [← hSS] at r1
                have BA := (Below.refl wr.heap.size wr).alloc (Nat.le_refl _) (.cells #[.int .u8 0, .int .u8 0, .int .u8 0, .int .u8 0, .int .u8 0, .int .u8 0, .int .u8 0, .int .u8 0, .int .u8 0, .int .u8 0, .int .u8 0, .int .u8 0, .int .u8 0, .int .u8 0, .int .u8 0, .int .u8 0, .int .u8 0, .int .u8 0, .int .u8 0, .int .u8 0, .int .u8 0, .int .u8 0, .int .u8 0, .int .u8 0, .int .u8 0, .int .u8 0, .int .u8 0, .int .u8 0, .int .u8 0, .int .u8 0, .int .u8 0, .int .u8 0] 23)
                have RH := (show Hid _ from r1.step BA)
                have RO := (show Hid _ from r3.step BA)
                have RD := (show Hid _ from r5.trans (BA.mono r5.size))
                have VO : Hid (VA (wr.alloc (.cells #[.int .u8 0, .int .u8 0, .int .u8 0, .int .u8 0, .int .u8 0, .int .u8 0, .int .u8 0, .int .u8 0, .int .u8 0, .int .u8 0, .int .u8 0, .int .u8 0, .int .u8 0, .int .u8 0, .int .u8 0, .int .u8 0, .int .u8 0, .int .u8 0, .int .u8 0, .int .u8 0, .int .u8 0, .int .u8 0, .int .u8 0, .int .u8 0, .int .u8 0, .int .u8 0, .int .u8 0, .int .u8 0, .int .u8 0, .int .u8 0, .int .u8 0, .int .u8 0] 23)) wr.heap.size (cl (orr SS 0)) 23) := va_new wr (cl (List.replicate 32 0)) 23
                have lO : Hid (w.heap.size < wr.heap.size ∧ hB < wr.heap.size) := by
                  have h1 := r3.lt
                  have h2 := r1.lt
                  exact ⟨h1, h2⟩
                clear R r1 r2 r3 r4 r5 hSS BA
                go_upto_region 51 with fail
                obtain ⟨w5, hw5⟩ : ∃ w5, w5 = wr.alloc (.cells #[.int .u8 0, .int .u8 0, .int .u8 0, .int .u8 0, .int .u8 0, .int .u8 0, .int .u8 0, .int .u8 0, .int .u8 0, .int .u8 0, .int .u8 0, .int .u8 0, .int .u8 0, .int .u8 0, .int .u8 0, .int .u8 0, .int .u8 0, .int .u8 0, .int .u8 0, .int .u8 0, .int .u8 0, .int .u8 0, .int .u8 0, .int .u8 0, .int .u8 0, .int .u8 0, .int .u8 0, .int .u8 0, .int .u8 0, .int .u8 0, .int .u8 0, .int .u8 0] 23) := ⟨_, rfl⟩
                rw [← hw5] at RH RO RD VO ⊢
                clear hw5
                generalize wr.heap.size = O at *
                go_wp2_with fail
                go_loopw [273] (fun ix wq => ∃ i : Nat, i ≤ 8 ∧ ix = .int .i64 i ∧ Hid (VA wq O (cl (orr SS (4 * i))) 23 ∧ Upd O w5 wq)) (fun ix _ => 8 - (intOf ix).toNat)
                case atStart => exact ⟨0, by omega, rfl, VO.out, rfl, rfl, rfl, rfl, fun _ _ => rfl⟩
                case round =>
                  obtain ⟨i, hi, rfl, Q⟩ := hrel
                  by_cases hi8 : i = 8
                  · subst hi8
                    have VF : Hid (VA wr O (cl (orr SS 32)) 23) := Q.out.1
                    have RF := (show Hid _ from RO.out.upd Q.out.2 (Nat.ne_of_lt lO.out.1))
                    have DF := (show Hid _ from Q.out.2.bel RD.out (by have := lO.out.1; omega))
                    have C32 : Hid ((cl (orr SS 32)).length = 32) := by show _ = _; rw [cl_len, orr_len]
                    clear Q
                    go_wp2_with (first
                      | (refine ldA rfl 23 _ rfl O (by rfl) _ _ VF.out 32 _ Tryd.underlying23 (info32.trans (by rw [C32.out])) ?_)
                      | (refine stA rfl 23 _ _ rfl w.heap.size (by rfl) _ (cl (orr SS 32)) (by rfl) 23 RF.out (info32.trans (by rw [C32.out])) (by rw [C32.out, cl_len]; rfl) (fun v hv => cl_one hv) ?_; intro w9 V9 U9))
                    refine bodyPost_ret (v := .agg (cl (sha bs)).toArray) ?_ rfl ⟨rfl, U9.bel DF.out (Nat.le_refl _)⟩
                    rw [HSHA.out]
                    have hld := run_loadVar_row (P := Tryd.prog) w9 w.heap.size 23 23 _ (0, 0) _ V9.blk Tryd.underlying23 rfl (info32.trans (by rw [List.size_toArray, C32.out]))
                    simp [results, Tryd.results12, asAddr, Act.put, hld]
                  · have hi' : i < 8 := by omega
                    have e1 : (0 : Int) ≤ (i : Int) := by omega
                    have e2 : (i : Int) < 8 := by omega
                    obtain ⟨X, hX⟩ : ∃ X, X = SS.getD i 0 := ⟨_, rfl⟩
                    have xb : X < 4294967296 := by rw [hX]; exact W8S.out.at i
                    have HX := (show Hid _ from hX)
                    have cH := (RH.out.upd Q.out.2 (Nat.ne_of_lt lO.out.2)).cell i (cq_get SS i (by rw [W8S.out.len]; omega))
                    rw [← hX] at cH
                    clear hX
                    go_wp2_with fail
                    clear cH
                    go_loopw [33, 34] (fun xx jx wz => ∃ j : Nat, j ≤ 4 ∧ xx = .int .u64 ((X / 256 ^ j : Nat) : Int) ∧ jx = .int .i64 (3 - (j : Int)) ∧ Hid (VA wz O (cl (orr SS (4 * i + j))) 23 ∧ Upd O w5 wz)) (fun _ jx _ => (intOf jx + 1).toNat)
                    case atStart => exact ⟨0, by omega, by simp, rfl, Q.out.1, Q.out.2⟩
                    case round =>
                      obtain ⟨j, hj, rfl, rfl, Z⟩ := hrel
                      by_cases hj4 : j = 4
                      · subst hj4
                        go_wp2_with fail
                        refine ⟨⟨i + 1, by omega, by go_num, Z.out.1, Z.out.2⟩, by simp [intOf]; omega⟩
                      · have hj' : j < 4 := by omega
                        obtain ⟨N, hN⟩ : ∃ N, N = X / 256 ^ j := ⟨_, rfl⟩
                        have HN := (show Hid _ from hN)
                        have hNb : N < 4294967296 := by rw [hN]; exact Nat.lt_of_le_of_lt (Nat.div_le_self _ _) xb
                        rw [← hN]
                        clear hN
                        obtain ⟨m, hm⟩ : ∃ m, m = 4 * i + (3 - j) := ⟨_, rfl⟩
                        obtain ⟨p, hp⟩ : ∃ p : Nat, (p : Int) = 3 - (j : Int) := ⟨3 - j, by omega⟩
                        rw [← hp]
                        have q0 : (0 : Int) ≤ (p : Int) := by omega
                        have q3 : (p : Int) < 4 := by omega
                        have q1 : (0 : Int) ≤ 4 * (i : Int) + (p : Int) := by omega
                        have q2 : 4 * (i : Int) + (p : Int) < 32 := by omega
                        have tm : (4 * (i : Int) + (p : Int)).toNat = m := by omega
                        have HP := (show Hid _ from hp)
                        clear hp
                        have hm32 : m < 32 := by omega
                        have HMI := (show Hid _ from hm)
                        clear hm
                        have c9 := Z.out.1.cell m (cl_get _ m (by rw [orr_len]; omega))
                        have f9 := Z.out.1.free m
                        go_wp2_with fail
                        refine ⟨⟨j + 1, by omega, ?_, ?_, ?_, Z.out.2.trans (upd_set _ _ _ _)⟩, by simp [intOf] <;> omega⟩
                        · rw [← div256, ← HN.out, Int.natCast_ediv]
                          rfl
                        · rw [show 3 - ((j + 1 : Nat) : Int) = (p : Int) - 1 by have := HP.out; omega]
                        · have V := Z.out.1.set m (.int .u8 ((N : Int) % 256))
                          have e : cl (orr SS (4 * i + (j + 1))) = (cl (orr SS (4 * i + j))).set m (.int .u8 ((N : Int) % 256)) := by
                            show cl ((orr SS (4 * i + j)).set (4 * ((4 * i + j) / 4) + (3 - (4 * i + j) % 4)) (SS.getD ((4 * i + j) / 4) 0 / 256 ^ ((4 * i + j) % 4) % 256)) = _
                            rw [show (4 * i + j) / 4 = i by omega, show (4 * i + j) % 4 = j by omega, cl_set, ← HX.out, ← HN.out, ← HMI.out, Int.natCast_emod]
                            rfl
                          rw [e]
                          exact V
            · have hb' : b < M := by omega
              have d1 : 64 * (b : Int) < 64 * (M : Int) := by omega
              have d2 : (0 : Int) ≤ 64 * (b : Int) := by omega
              obtain ⟨BK, hBK⟩ : ∃ BK, BK = (TX.drop (64 * b)).take 64 := ⟨_, rfl⟩
              have HBK := (show Hid _ from hBK)
              obtain ⟨SS, hSS⟩ : ∃ SS, SS = shB fst8 TX b := ⟨_, rfl⟩
              have HSS := (show Hid _ from hSS)
              have W8S : Hid (W8 SS) := by rw [hSS]; exact shB_w8 fst_w8 TX b
              have BYB : Hid (By BK) := by rw [hBK]; exact fun x hx => BYT.out x (List.mem_of_mem_drop (List.mem_of_mem_take hx))
              obtain ⟨r1, r2, r3, r4, r5, r6⟩ := R.out
              rw [← hSS] at r1
              have R1 := (show Hid _ from r1)
              have R2 := (show Hid _ from r2)
              have R3 := (show Hid _ from r3)
              have R4 := (show Hid _ from r4)
              have R5 := (show Hid _ from r5)
              clear R r1 r2 r3 r4 r5 hBK hSS
              have hgW : Hid (g < wr.heap.size) := by
                rcases R4.out.head with ⟨e, _⟩ | ⟨g', c', e, _, h2, _⟩
                · cases e
                · simp only [Value.slice.injEq, Option.some.injEq, Addr.mk.injEq] at e
                  obtain ⟨⟨rfl, _⟩, _⟩ := e
                  exact h2
              go_wp2_with (refine mkQ rfl _ _ rfl (by rfl) (by rfl) ?_; intro w5 V5 B5)
              have lW : wr.heap.size < w5.heap.size := V5.lt
              have R1 := (show Hid _ from R1.out.step B5)
              have R2 := (show Hid _ from R2.out.step B5)
              have R3 := (show Hid _ from R3.out.step B5)
              have R4 := (show Hid _ from R4.out.step B5)
              have R5 := (show Hid _ from R5.out.trans (B5.mono R5.out.size))
              have V5h := (show Hid _ from V5)
              clear B5 V5
              generalize wr.heap.size = W at *
              go_loopw [76] (fun ix wq => ∃ k : Nat, k ≤ 16 ∧ ix = .int .i64 k ∧ Hid (VA wq W (cq (fw BK k)) 41 ∧ Upd W w5 wq)) (fun ix _ => 16 - (intOf ix).toNat)
              case atStart => exact ⟨0, by omega, rfl, V5h.out, rfl, rfl, rfl, rfl, fun _ _ => rfl⟩
              case round =>
                obtain ⟨k, hk, rfl, Q⟩ := hrel
                by_cases hk16 : k = 16
                · subst hk16
                  obtain ⟨FW, hFW⟩ : ∃ FW, FW = fw BK 16 := ⟨_, rfl⟩
                  have FL : Hid (FW.length = 64) := by rw [hFW]; exact fw_len BK 16
                  have FS : Hid (∀ x ∈ FW, x < 4294967296) := by rw [hFW]; exact fw_small BYB.out 16
                  have HFW := (show Hid _ from hFW)
                  rw [← hFW] at Q
                  have QE : Hid (VA wr W (cq FW) 41 ∧ Ex W w5 wr) := ⟨Q.out.1, (Ex.refl W w5).upd Q.out.2⟩
                  clear hFW Q
                  go_wp2_with fail
                  go_loopw [13] (fun ix wq => ∃ k : Nat, k ≤ 48 ∧ ix = .int .i64 (16 + (k : Int)) ∧ Hid (VA wq W (cq (sch FW k)) 41 ∧ Ex W w5 wq)) (fun ix _ => 64 - (intOf ix).toNat)
                  case atStart => exact ⟨0, by omega, rfl, QE.out⟩
                  case round =>
                    obtain ⟨k, hk, rfl, Q2⟩ := hrel
                    by_cases hk48 : k = 48
                    · subst hk48
                      rw [show (16 + ((48 : Nat) : Int)) = 64 from rfl]
                      have hS64 : Hid (sch FW 48 = sched BK) := by
                        show sch FW 48 = _
                        rw [HFW.out]
                        rfl
                      obtain ⟨WW, hWW⟩ : ∃ WW, WW = sched BK := ⟨_, rfl⟩
                      have HWW := (show Hid _ from hWW)
                      have WWL : Hid (WW.length = 64) := by rw [hWW]; exact sched_len BK
                      have WWS : Hid (∀ x ∈ WW, x < 4294967296) := by rw [hWW]; exact sched_small BYB.out
                      have Q3 : Hid (VA wr W (cq WW) 41 ∧ Ex W w5 wr) := by
                        have := Q2.out
                        rw [hS64.out, ← hWW] at this
                        exact this
                      have RH := (show Hid _ from R1.out.ex Q3.out.2 (by omega))
                      have RK := (show Hid _ from R2.out.ex Q3.out.2 (by omega))
                      clear hWW Q2 hS64
                      obtain ⟨a0, b0, c0, d0, e0, f0, g0, z0, hSL⟩ := w8_letters W8S.out
                      have HSL := (show Hid _ from hSL)
                      rw [hSL] at RH
                      clear hSL
                      go_upto_region 34 with fail
                      refine wp_region_noPanic ?_
                      refine wp_region_held_drew (S := fun w' => VA w' hB (cq [a0, b0, c0, d0, e0, f0, g0, z0]) 41) (by as_aux_lemma => kernel_rfl) RH.out.drew (fun hHeld => ?_)
                      refine takeD 0 152 (.slice (some ⟨hB, 0, none⟩) 8 8) (by exact rfl) rfl (by as_aux_lemma => kernel_rfl) (by as_aux_lemma => kernel_rfl) (by as_aux_lemma => kernel_rfl) (fun _ _ _ h => h) (Or.inl ⟨by rfl, ?_⟩) (by assumption) ?_
                      · intro wq hS
                        go_simp
                      simp only [Act.put, List.setIfInBounds_toArray, List.set_cons_zero, List.set_cons_succ]
                      refine takeD 1 153 (.pointer (some ⟨hB, 0, none⟩)) (by exact rfl) rfl (by as_aux_lemma => kernel_rfl) (by as_aux_lemma => kernel_rfl) (by as_aux_lemma => kernel_rfl) (fun _ _ _ h => h) (Or.inl ⟨by rfl, ?_⟩) (by assumption) ?_
                      · intro wq hS
                        go_simp
                      simp only [Act.put, List.setIfInBounds_toArray, List.set_cons_zero, List.set_cons_succ]
                      refine takeD 2 154 (.int .u64 (a0 : Int)) (by exact rfl) rfl (by as_aux_lemma => kernel_rfl) (by as_aux_lemma => kernel_rfl) (by as_aux_lemma => kernel_rfl) (fun _ _ _ h => h) (Or.inl ⟨by rfl, ?_⟩) (by assumption) ?_
                      · intro wq hS
                        have c := hS.cell 0 (v := .int .u64 (a0 : Int)) rfl
                        go_simp
                      simp only [Act.put, List.setIfInBounds_toArray, List.set_cons_zero, List.set_cons_succ]
                      refine takeD 3 155 (.slice (some ⟨hB, 0, none⟩) 8 8) (by exact rfl) rfl (by as_aux_lemma => kernel_rfl) (by as_aux_lemma => kernel_rfl) (by as_aux_lemma => kernel_rfl) (fun _ _ _ h => h) (Or.inl ⟨by rfl, ?_⟩) (by assumption) ?_
                      · intro wq hS
                        go_simp
                      simp only [Act.put, List.setIfInBounds_toArray, List.set_cons_zero, List.set_cons_succ]
                      refine takeD 4 156 (.pointer (some ⟨hB, 1, none⟩)) (by exact rfl) rfl (by as_aux_lemma => kernel_rfl) (by as_aux_lemma => kernel_rfl) (by as_aux_lemma => kernel_rfl) (fun _ _ _ h => h) (Or.inl ⟨by rfl, ?_⟩) (by assumption) ?_
                      · intro wq hS
                        go_simp
                      simp only [Act.put, List.setIfInBounds_toArray, List.set_cons_zero, List.set_cons_succ]
                      refine takeD 5 157 (.int .u64 (b0 : Int)) (by exact rfl) rfl (by as_aux_lemma => kernel_rfl) (by as_aux_lemma => kernel_rfl) (by as_aux_lemma => kernel_rfl) (fun _ _ _ h => h) (Or.inl ⟨by rfl, ?_⟩) (by assumption) ?_
                      · intro wq hS
                        have c := hS.cell 1 (v := .int .u64 (b0 : Int)) rfl
                        go_simp
                      simp only [Act.put, List.setIfInBounds_toArray, List.set_cons_zero, List.set_cons_succ]
                      refine takeD 6 158 (.slice (some ⟨hB, 0, none⟩) 8 8) (by exact rfl) rfl (by as_aux_lemma => kernel_rfl) (by as_aux_lemma => kernel_rfl) (by as_aux_lemma => kernel_rfl) (fun _ _ _ h => h) (Or.inl ⟨by rfl, ?_⟩) (by assumption) ?_
                      · intro wq hS
                        go_simp
                      simp only [Act.put, List.setIfInBounds_toArray, List.set_cons_zero, List.set_cons_succ]
                      refine takeD 7 159 (.pointer (some ⟨hB, 2, none⟩)) (by exact rfl) rfl (by as_aux_lemma => kernel_rfl) (by as_aux_lemma => kernel_rfl) (by as_aux_lemma => kernel_rfl) (fun _ _ _ h => h) (Or.inl ⟨by rfl, ?_⟩) (by assumption) ?_
                      · intro wq hS
                        go_simp
                      simp only [Act.put, List.setIfInBounds_toArray, List.set_cons_zero, List.set_cons_succ]
                      refine takeD 8 160 (.int .u64 (c0 : Int)) (by exact rfl) rfl (by as_aux_lemma => kernel_rfl) (by as_aux_lemma => kernel_rfl) (by as_aux_lemma => kernel_rfl) (fun _ _ _ h => h) (Or.inl ⟨by rfl, ?_⟩) (by assumption) ?_
                      · intro wq hS
                        have c := hS.cell 2 (v := .int .u64 (c0 : Int)) rfl
                        go_simp
                      simp only [Act.put, List.setIfInBounds_toArray, List.set_cons_zero, List.set_cons_succ]
                      refine takeD 9 161 (.slice (some ⟨hB, 0, none⟩) 8 8) (by exact rfl) rfl (by as_aux_lemma => kernel_rfl) (by as_aux_lemma => kernel_rfl) (by as_aux_lemma => kernel_rfl) (fun _ _ _ h => h) (Or.inl ⟨by rfl, ?_⟩) (by assumption) ?_
                      · intro wq hS
                        go_simp
                      simp only [Act.put, List.setIfInBounds_toArray, List.set_cons_zero, List.set_cons_succ]
                      refine takeD 10 162 (.pointer (some ⟨hB, 3, none⟩)) (by exact rfl) rfl (by as_aux_lemma => kernel_rfl) (by as_aux_lemma => kernel_rfl) (by as_aux_lemma => kernel_rfl) (fun _ _ _ h => h) (Or.inl ⟨by rfl, ?_⟩) (by assumption) ?_
                      · intro wq hS
                        go_simp
                      simp only [Act.put, List.setIfInBounds_toArray, List.set_cons_zero, List.set_cons_succ]
                      refine takeD 11 163 (.int .u64 (d0 : Int)) (by exact rfl) rfl (by as_aux_lemma => kernel_rfl) (by as_aux_lemma => kernel_rfl) (by as_aux_lemma => kernel_rfl) (fun _ _ _ h => h) (Or.inl ⟨by rfl, ?_⟩) (by assumption) ?_
                      · intro wq hS
                        have c := hS.cell 3 (v := .int .u64 (d0 : Int)) rfl
                        go_simp
                      simp only [Act.put, List.setIfInBounds_toArray, List.set_cons_zero, List.set_cons_succ]
                      refine takeD 12 164 (.slice (some ⟨hB, 0, none⟩) 8 8) (by exact rfl) rfl (by as_aux_lemma => kernel_rfl) (by as_aux_lemma => kernel_rfl) (by as_aux_lemma => kernel_rfl) (fun _ _ _ h => h) (Or.inl ⟨by rfl, ?_⟩) (by assumption) ?_
                      · intro wq hS
                        go_simp
                      simp only [Act.put, List.setIfInBounds_toArray, List.set_cons_zero, List.set_cons_succ]
                      refine takeD 13 165 (.pointer (some ⟨hB, 4, none⟩)) (by exact rfl) rfl (by as_aux_lemma => kernel_rfl) (by as_aux_lemma => kernel_rfl) (by as_aux_lemma => kernel_rfl) (fun _ _ _ h => h) (Or.inl ⟨by rfl, ?_⟩) (by assumption) ?_
                      · intro wq hS
                        go_simp
                      simp only [Act.put, List.setIfInBounds_toArray, List.set_cons_zero, List.set_cons_succ]
                      refine takeD 14 166 (.int .u64 (e0 : Int)) (by exact rfl) rfl (by as_aux_lemma => kernel_rfl) (by as_aux_lemma => kernel_rfl) (by as_aux_lemma => kernel_rfl) (fun _ _ _ h => h) (Or.inl ⟨by rfl, ?_⟩) (by assumption) ?_
                      · intro wq hS
                        have c := hS.cell 4 (v := .int .u64 (e0 : Int)) rfl
                        go_simp
                      simp only [Act.put, List.setIfInBounds_toArray, List.set_cons_zero, List.set_cons_succ]
                      refine takeD 15 167 (.slice (some ⟨hB, 0, none⟩) 8 8) (by exact rfl) rfl (by as_aux_lemma => kernel_rfl) (by as_aux_lemma => kernel_rfl) (by as_aux_lemma => kernel_rfl) (fun _ _ _ h => h) (Or.inl ⟨by rfl, ?_⟩) (by assumption) ?_
                      · intro wq hS
                        go_simp
                      simp only [Act.put, List.setIfInBounds_toArray, List.set_cons_zero, List.set_cons_succ]
                      refine takeD 16 168 (.pointer (some ⟨hB, 5, none⟩)) (by exact rfl) rfl (by as_aux_lemma => kernel_rfl) (by as_aux_lemma => kernel_rfl) (by as_aux_lemma => kernel_rfl) (fun _ _ _ h => h) (Or.inl ⟨by rfl, ?_⟩) (by assumption) ?_
                      · intro wq hS
                        go_simp
                      simp only [Act.put, List.setIfInBounds_toArray, List.set_cons_zero, List.set_cons_succ]
                      refine takeD 17 169 (.int .u64 (f0 : Int)) (by exact rfl) rfl (by as_aux_lemma => kernel_rfl) (by as_aux_lemma => kernel_rfl) (by as_aux_lemma => kernel_rfl) (fun _ _ _ h => h) (Or.inl ⟨by rfl, ?_⟩) (by assumption) ?_
                      · intro wq hS
                        have c := hS.cell 5 (v := .int .u64 (f0 : Int)) rfl
                        go_simp
                      simp only [Act.put, List.setIfInBounds_toArray, List.set_cons_zero, List.set_cons_succ]
                      refine takeD 18 170 (.slice (some ⟨hB, 0, none⟩) 8 8) (by exact rfl) rfl (by as_aux_lemma => kernel_rfl) (by as_aux_lemma => kernel_rfl) (by as_aux_lemma => kernel_rfl) (fun _ _ _ h => h) (Or.inl ⟨by rfl, ?_⟩) (by assumption) ?_
                      · intro wq hS
                        go_simp
                      simp only [Act.put, List.setIfInBounds_toArray, List.set_cons_zero, List.set_cons_succ]
                      refine takeD 19 171 (.pointer (some ⟨hB, 6, none⟩)) (by exact rfl) rfl (by as_aux_lemma => kernel_rfl) (by as_aux_lemma => kernel_rfl) (by as_aux_lemma => kernel_rfl) (fun _ _ _ h => h) (Or.inl ⟨by rfl, ?_⟩) (by assumption) ?_
                      · intro wq hS
                        go_simp
                      simp only [Act.put, List.setIfInBounds_toArray, List.set_cons_zero, List.set_cons_succ]
                      refine takeD 20 172 (.int .u64 (g0 : Int)) (by exact rfl) rfl (by as_aux_lemma => kernel_rfl) (by as_aux_lemma => kernel_rfl) (by as_aux_lemma => kernel_rfl) (fun _ _ _ h => h) (Or.inl ⟨by rfl, ?_⟩) (by assumption) ?_
                      · intro wq hS
                        have c := hS.cell 6 (v := .int .u64 (g0 : Int)) rfl
                        go_simp
                      simp only [Act.put, List.setIfInBounds_toArray, List.set_cons_zero, List.set_cons_succ]
                      refine takeD 21 173 (.slice (some ⟨hB, 0, none⟩) 8 8) (by exact rfl) rfl (by as_aux_lemma => kernel_rfl) (by as_aux_lemma => kernel_rfl) (by as_aux_lemma => kernel_rfl) (fun _ _ _ h => h) (Or.inl ⟨by rfl, ?_⟩) (by assumption) ?_
                      · intro wq hS
                        go_simp
                      simp only [Act.put, List.setIfInBounds_toArray, List.set_cons_zero, List.set_cons_succ]
                      refine takeD 22 174 (.pointer (some ⟨hB, 7, none⟩)) (by exact rfl) rfl (by as_aux_lemma => kernel_rfl) (by as_aux_lemma => kernel_rfl) (by as_aux_lemma => kernel_rfl) (fun _ _ _ h => h) (Or.inl ⟨by rfl, ?_⟩) (by assumption) ?_
                      · intro wq hS
                        go_simp
                      simp only [Act.put, List.setIfInBounds_toArray, List.set_cons_zero, List.set_cons_succ]
                      refine takeD 23 175 (.int .u64 (z0 : Int)) (by exact rfl) rfl (by as_aux_lemma => kernel_rfl) (by as_aux_lemma => kernel_rfl) (by as_aux_lemma => kernel_rfl) (fun _ _ _ h => h) (Or.inl ⟨by rfl, ?_⟩) (by assumption) ?_
                      · intro wq hS
                        have c := hS.cell 7 (v := .int .u64 (z0 : Int)) rfl
                        go_simp
                      simp only [Act.put, List.setIfInBounds_toArray, List.set_cons_zero, List.set_cons_succ]
                      refine takeD 24 18 (.int .u64 (a0 : Int)) (by exact rfl) rfl (by as_aux_lemma => kernel_rfl) (by as_aux_lemma => kernel_rfl) (by as_aux_lemma => kernel_rfl) (fun _ _ _ h => h) (Or.inl ⟨by rfl, ?_⟩) (by assumption) ?_
                      · intro wq hS
                        go_simp
                      simp only [Act.put, List.setIfInBounds_toArray, List.set_cons_zero, List.set_cons_succ]
                      refine takeD 25 19 (.int .u64 (b0 : Int)) (by exact rfl) rfl (by as_aux_lemma => kernel_rfl) (by as_aux_lemma => kernel_rfl) (by as_aux_lemma => kernel_rfl) (fun _ _ _ h => h) (Or.inl ⟨by rfl, ?_⟩) (by assumption) ?_
                      · intro wq hS
                        go_simp
                      simp only [Act.put, List.setIfInBounds_toArray, List.set_cons_zero, List.set_cons_succ]
                      refine takeD 26 20 (.int .u64 (c0 : Int)) (by exact rfl) rfl (by as_aux_lemma => kernel_rfl) (by as_aux_lemma => kernel_rfl) (by as_aux_lemma => kernel_rfl) (fun _ _ _ h => h) (Or.inl ⟨by rfl, ?_⟩) (by assumption) ?_
                      · intro wq hS
                        go_simp
                      simp only [Act.put, List.setIfInBounds_toArray, List.set_cons_zero, List.set_cons_succ]
                      refine takeD 27 21 (.int .u64 (d0 : Int)) (by exact rfl) rfl (by as_aux_lemma => kernel_rfl) (by as_aux_lemma => kernel_rfl) (by as_aux_lemma => kernel_rfl) (fun _ _ _ h => h) (Or.inl ⟨by rfl, ?_⟩) (by assumption) ?_
                      · intro wq hS
                        go_simp
                      simp only [Act.put, List.setIfInBounds_toArray, List.set_cons_zero, List.set_cons_succ]
                      refine takeD 28 22 (.int .u64 (e0 : Int)) (by exact rfl) rfl (by as_aux_lemma => kernel_rfl) (by as_aux_lemma => kernel_rfl) (by as_aux_lemma => kernel_rfl) (fun _ _ _ h => h) (Or.inl ⟨by rfl, ?_⟩) (by assumption) ?_
                      · intro wq hS
                        go_simp
                      simp only [Act.put, List.setIfInBounds_toArray, List.set_cons_zero, List.set_cons_succ]
                      refine takeD 29 23 (.int .u64 (f0 : Int)) (by exact rfl) rfl (by as_aux_lemma => kernel_rfl) (by as_aux_lemma => kernel_rfl) (by as_aux_lemma => kernel_rfl) (fun _ _ _ h => h) (Or.inl ⟨by rfl, ?_⟩) (by assumption) ?_
                      · intro wq hS
                        go_simp
                      simp only [Act.put, List.setIfInBounds_toArray, List.set_cons_zero, List.set_cons_succ]
                      refine takeD 30 24 (.int .u64 (g0 : Int)) (by exact rfl) rfl (by as_aux_lemma => kernel_rfl) (by as_aux_lemma => kernel_rfl) (by as_aux_lemma => kernel_rfl) (fun _ _ _ h => h) (Or.inl ⟨by rfl, ?_⟩) (by assumption) ?_
                      · intro wq hS
                        go_simp
                      simp only [Act.put, List.setIfInBounds_toArray, List.set_cons_zero, List.set_cons_succ]
                      refine takeD 31 25 (.int .u64 (z0 : Int)) (by exact rfl) rfl (by as_aux_lemma => kernel_rfl) (by as_aux_lemma => kernel_rfl) (by as_aux_lemma => kernel_rfl) (fun _ _ _ h => h) (Or.inl ⟨by rfl, ?_⟩) (by assumption) ?_
                      · intro wq hS
                        go_simp
                      simp only [Act.put, List.setIfInBounds_toArray, List.set_cons_zero, List.set_cons_succ]
                      refine wpAnyH_done (by as_aux_lemma => kernel_rfl) ?_ _
                      refine NoPanic.normal ?_
                      have Q4 : Hid (VA wr.drew W (cq WW) 41 ∧ Ex W w5 wr.drew) := ⟨Q3.out.1.drew, Q3.out.2.bel (Below.refl _ _).drew⟩
                      have RH4 := (show Hid _ from RH.out.drew)
                      have RK4 := (show Hid _ from RK.out.drew)
                      clear hHeld Q3 RH RK
                      generalize wr.drew = w6 at *
                      have HSV : Hid (rnds SS WW 0 = [a0, b0, c0, d0, e0, f0, g0, z0]) := HSL.out
                      go_wp2_with fail
                      go_loopw [18, 19, 20, 21, 22, 23, 24, 25, 176] (fun v1 v2 v3 v4 v5 v6 v7 v8 ix wq => ∃ k A B C D E F G Z : Nat, k ≤ 64 ∧ v1 = .int .u64 (A : Int) ∧ v2 = .int .u64 (B : Int) ∧ v3 = .int .u64 (C : Int) ∧ v4 = .int .u64 (D : Int) ∧ v5 = .int .u64 (E : Int) ∧ v6 = .int .u64 (F : Int) ∧ v7 = .int .u64 (G : Int) ∧ v8 = .int .u64 (Z : Int) ∧ ix = .int .i64 k ∧ Hid (rnds SS WW k = [A, B, C, D, E, F, G, Z]) ∧ Hid (Below w6.heap.size w6 wq)) (fun _ _ _ _ _ _ _ _ ix _ => 64 - (intOf ix).toNat)
                      case atStart => exact ⟨0, a0, b0, c0, d0, e0, f0, g0, z0, by omega, rfl, rfl, rfl, rfl, rfl, rfl, rfl, rfl, rfl, HSV, Below.refl _ _⟩
                      case round =>
                        obtain ⟨k, A, B, C, D, E, F, G, Z, hk, rfl, rfl, rfl, rfl, rfl, rfl, rfl, rfl, rfl, HSK, QB⟩ := hrel
                        by_cases hk64 : k = 64
                        · subst hk64
                          have HV8 : Hid (rnds SS WW 64 = [A, B, C, D, E, F, G, Z]) := HSK
                          obtain ⟨VS, hVS⟩ : ∃ VS, VS = rnds SS WW 64 := ⟨_, rfl⟩
                          have W8V : Hid (W8 VS) := by rw [hVS]; exact rnds_w8 W8S.out WW 64
                          have hVL : Hid (VS = [A, B, C, D, E, F, G, Z]) := by rw [hVS]; exact HV8.out
                          have HMX : Hid (addS SS VS 8 = shB fst8 TX (b + 1)) := by
                            show addS SS VS 8 = mix (shB fst8 TX b) ((TX.drop (64 * b)).take 64)
                            rw [hVS, HWW.out, ← HBK.out, ← HSS.out]
                            rfl
                          have X4 := (show Hid _ from Q4.out.2.bel QB.out)
                          have Y1 : Hid (VA wr hB (cq SS) 41) := by
                            have := RH4.out.step QB.out
                            rw [← HSL.out] at this
                            exact this
                          have Y2 := (show Hid _ from RK4.out.step QB.out)
                          have Y3 := (show Hid _ from R3.out.ex X4.out (by omega))
                          have Y4 := (show Hid _ from R4.out.ex X4.out (Nat.ne_of_lt hgW.out))
                          have Y5 := (show Hid _ from below_ex R5.out X4.out (by omega) R5.out.size)
                          have Y6 : Hid (N4 ≤ wr.heap.size) := by have h1 := X4.out.size; show N4 ≤ _; omega
                          clear QB X4 hVS HV8 RH4 RK4 Q4
                          go_upto_region 46 with fail
                          obtain ⟨w7, hw7⟩ : ∃ w7, w7 = wr.alloc (.cells (cq [A, B, C, D, E, F, G, Z]).toArray 41) := ⟨_, rfl⟩
                          have e7 : wr.alloc (.cells #[.int .u64 (A : Int), .int .u64 (B : Int), .int .u64 (C : Int), .int .u64 (D : Int), .int .u64 (E : Int), .int .u64 (F : Int), .int .u64 (G : Int), .int .u64 (Z : Int)] 41) = w7 := hw7.symm
                          rw [e7]
                          clear e7
                          have VN : Hid (VA w7 wr.heap.size (cq VS) 41) := by
                            rw [hVL.out, hw7]
                            exact va_new wr _ _
                          have BA : Below wr.heap.size wr w7 := by rw [hw7]; exact (Below.refl wr.heap.size wr).alloc (Nat.le_refl _) _
                          have Z1 := (show Hid _ from Y1.out.step BA)
                          have Z2 := (show Hid _ from Y2.out.step BA)
                          have Z3 := (show Hid _ from Y3.out.step BA)
                          have Z4 := (show Hid _ from Y4.out.step BA)
                          have Z5 := (show Hid _ from Y5.out.trans (BA.mono Y5.out.size))
                          have Z6 : Hid (N4 ≤ w7.heap.size) := Nat.le_trans Y6.out BA.size
                          have hNB : Hid (hB < wr.heap.size) := Y1.out.lt
                          clear BA hw7 Y1 Y2 Y3 Y4 Y5 Y6
                          generalize wr.heap.size = NB at *
                          go_wp2_with fail
                          go_loopw [255] (fun ix wq => ∃ i : Nat, i ≤ 8 ∧ ix = .int .i64 i ∧ Hid (VA wq hB (cq (addS SS VS i)) 41 ∧ Upd hB w7 wq)) (fun ix _ => 8 - (intOf ix).toNat)
                          case atStart => exact ⟨0, by omega, rfl, Z1.out, rfl, rfl, rfl, rfl, fun _ _ => rfl⟩
                          case round =>
                            obtain ⟨i, hi, rfl, QA⟩ := hrel
                            by_cases hi8 : i = 8
                            · subst hi8
                              have F1 : Hid (VA wr hB (cq (shB fst8 TX (b + 1))) 41) := by rw [← HMX.out]; exact QA.out.1
                              have F2 := (show Hid _ from Z2.out.upd QA.out.2 (by omega))
                              have F3 := (show Hid _ from Z3.out.upd QA.out.2 (by omega))
                              have F4 := (show Hid _ from Z4.out.upd' QA.out.2 (by omega))
                              have F5 := (show Hid _ from QA.out.2.bel Z5.out (by omega))
                              have F6 : Hid (N4 ≤ wr.heap.size) := by show N4 ≤ _; rw [QA.out.2.size]; exact Z6.out
                              clear QA Z1 Z2 Z3 Z4 Z5 Z6
                              go_wp2_with fail
                              refine ⟨⟨b + 1, by omega, ?_, F1.out, F2.out, F3.out, F4.out, F5.out, F6.out⟩, by simp [intOf]; omega⟩
                              rw [show (64 * ((b + 1 : Nat) : Int)) = 64 * (b : Int) + 64 by omega]
                            · have hi' : i < 8 := by omega
                              have e1 : (0 : Int) ≤ (i : Int) := by omega
                              have e2 : (i : Int) < 8 := by omega
                              have W8A := addS_w8 W8S.out VS i
                              obtain ⟨X, hX⟩ : ∃ X, X = (addS SS VS i).getD i 0 := ⟨_, rfl⟩
                              obtain ⟨V, hV⟩ : ∃ V, V = VS.getD i 0 := ⟨_, rfl⟩
                              have Xb : X < 4294967296 := by rw [hX]; exact W8A.at i
                              have Vb : V < 4294967296 := by rw [hV]; exact W8V.out.at i
                              have cH := QA.out.1.cell i (cq_get _ i (by rw [W8A.len]; omega))
                              have fH := QA.out.1.free i
                              have cN := (VN.out.upd QA.out.2 (Nat.ne_of_gt hNB.out)).cell i (cq_get _ i (by rw [W8V.out.len]; omega))
                              rw [← hX] at cH
                              rw [← hV] at cN
                              have HNX : Hid (addS SS VS (i + 1) = (addS SS VS i).set i ((X + V) % 4294967296)) := by
                                show (addS SS VS i).set i (((addS SS VS i).getD i 0 + VS.getD i 0) % 4294967296) = _
                                rw [← hX, ← hV]
                              have e3 : ((X : Int) + (V : Int)).tmod 4294967296 = (((X + V) % 4294967296 : Nat) : Int) := by rw [Int.tmod_eq_emod_of_nonneg (by omega)]; omega
                              obtain ⟨R, hR⟩ : ∃ R, R = (X + V) % 4294967296 := ⟨_, rfl⟩
                              rw [← hR] at e3
                              have HNY : Hid (addS SS VS (i + 1) = (addS SS VS i).set i R) := by rw [hR]; exact HNX.out
                              clear hX hV hR W8A HNX
                              go_wp2_with fail
                              refine ⟨⟨i + 1, by omega, by go_num, ?_, QA.out.2.trans (upd_set _ _ _ _)⟩, by simp [intOf]; omega⟩
                              rw [HNY.out, cq_set]
                              exact QA.out.1.set i _
                        · as_aux_lemma =>
                            have hk' : k < 64 := by omega
                            have W8K := rnds_w8 W8S.out WW k
                            rw [HSK.out] at W8K
                            have Ab : A < 4294967296 := W8K.at 0
                            have Bb : B < 4294967296 := W8K.at 1
                            have Cb : C < 4294967296 := W8K.at 2
                            have Db : D < 4294967296 := W8K.at 3
                            have Eb : E < 4294967296 := W8K.at 4
                            have Fb : F < 4294967296 := W8K.at 5
                            have Gb : G < 4294967296 := W8K.at 6
                            have Zb : Z < 4294967296 := W8K.at 7
                            clear W8K
                            obtain ⟨KK, hKK⟩ : ∃ z, z = rts.getD k 0 := ⟨_, rfl⟩
                            obtain ⟨V, hV⟩ : ∃ z, z = WW.getD k 0 := ⟨_, rfl⟩
                            have KKb : KK < 4294967296 := by rw [hKK]; exact getD_small rts_small k
                            have Vb : V < 4294967296 := by rw [hV]; exact getD_small WWS.out k
                            have HCK : Hid ((cw rts)[k]? = some (.int .u32 (KK : Int))) := by rw [hKK]; exact cw_get rts k (by rw [rts_len]; omega)
                            have HCV : Hid ((cq WW)[k]? = some (.int .u64 (V : Int))) := by rw [hV]; exact cq_get WW k (by rw [WWL.out]; omega)
                            obtain ⟨x6, hx6⟩ : ∃ z, z = rot E 6 := ⟨_, rfl⟩
                            have x6b : x6 < 4294967296 := by rw [hx6]; exact rot_lt Eb
                            obtain ⟨x11, hx11⟩ : ∃ z, z = rot E 11 := ⟨_, rfl⟩
                            have x11b : x11 < 4294967296 := by rw [hx11]; exact rot_lt Eb
                            obtain ⟨x25, hx25⟩ : ∃ z, z = rot E 25 := ⟨_, rfl⟩
                            have x25b : x25 < 4294967296 := by rw [hx25]; exact rot_lt Eb
                            obtain ⟨x2, hx2⟩ : ∃ z, z = rot A 2 := ⟨_, rfl⟩
                            have x2b : x2 < 4294967296 := by rw [hx2]; exact rot_lt Ab
                            obtain ⟨x13, hx13⟩ : ∃ z, z = rot A 13 := ⟨_, rfl⟩
                            have x13b : x13 < 4294967296 := by rw [hx13]; exact rot_lt Ab
                            obtain ⟨x22, hx22⟩ : ∃ z, z = rot A 22 := ⟨_, rfl⟩
                            have x22b : x22 < 4294967296 := by rw [hx22]; exact rot_lt Ab
                            obtain ⟨m1, hm1⟩ : ∃ z, z = E &&& F := ⟨_, rfl⟩
                            obtain ⟨nE, hnE⟩ : ∃ z, z = 4294967295 - E := ⟨_, rfl⟩
                            obtain ⟨m2, hm2⟩ : ∃ z, z = nE &&& G := ⟨_, rfl⟩
                            obtain ⟨c1, hc1⟩ : ∃ z, z = m1 ^^^ m2 := ⟨_, rfl⟩
                            obtain ⟨p1, hp1⟩ : ∃ z, z = x6 ^^^ x11 := ⟨_, rfl⟩
                            obtain ⟨q1, hq1⟩ : ∃ z, z = p1 ^^^ x25 := ⟨_, rfl⟩
                            obtain ⟨p2, hp2⟩ : ∃ z, z = x2 ^^^ x13 := ⟨_, rfl⟩
                            obtain ⟨q2, hq2⟩ : ∃ z, z = p2 ^^^ x22 := ⟨_, rfl⟩
                            obtain ⟨n1, hn1⟩ : ∃ z, z = A &&& B := ⟨_, rfl⟩
                            obtain ⟨n2, hn2⟩ : ∃ z, z = A &&& C := ⟨_, rfl⟩
                            obtain ⟨n3, hn3⟩ : ∃ z, z = B &&& C := ⟨_, rfl⟩
                            obtain ⟨n4, hn4⟩ : ∃ z, z = n1 ^^^ n2 := ⟨_, rfl⟩
                            obtain ⟨j1, hj1⟩ : ∃ z, z = n4 ^^^ n3 := ⟨_, rfl⟩
                            have nEb : nE < 4294967296 := by omega
                            have m1b : m1 < 4294967296 := by rw [hm1]; exact and32 Eb
                            have m2b : m2 < 4294967296 := by rw [hm2]; exact and32 nEb
                            have c1b : c1 < 4294967296 := by rw [hc1]; exact xor32 m1b m2b
                            have p1b : p1 < 4294967296 := by rw [hp1]; exact xor32 x6b x11b
                            have q1b : q1 < 4294967296 := by rw [hq1]; exact xor32 p1b x25b
                            have p2b : p2 < 4294967296 := by rw [hp2]; exact xor32 x2b x13b
                            have q2b : q2 < 4294967296 := by rw [hq2]; exact xor32 p2b x22b
                            have n1b : n1 < 4294967296 := by rw [hn1]; exact and32 Ab
                            have n2b : n2 < 4294967296 := by rw [hn2]; exact and32 Ab
                            have n3b : n3 < 4294967296 := by rw [hn3]; exact and32 Bb
                            have n4b : n4 < 4294967296 := by rw [hn4]; exact xor32 n1b n2b
                            have j1b : j1 < 4294967296 := by rw [hj1]; exact xor32 n4b n3b
                            have U : Hid (bits .and .u64 (E : Int) (F : Int) = (m1 : Int) ∧ bits .and .u64 (nE : Int) (G : Int) = (m2 : Int) ∧ bits .xor .u64 (m1 : Int) (m2 : Int) = (c1 : Int) ∧ bits .xor .u64 (x6 : Int) (x11 : Int) = (p1 : Int) ∧ bits .xor .u64 (p1 : Int) (x25 : Int) = (q1 : Int)) :=
                              ⟨by rw [hm1]; exact aq Eb Fb, by rw [hm2]; exact aq nEb Gb, by rw [hc1]; exact xq m1b m2b, by rw [hp1]; exact xq x6b x11b, by rw [hq1]; exact xq p1b x25b⟩
                            have U2 : Hid (bits .xor .u64 (x2 : Int) (x13 : Int) = (p2 : Int) ∧ bits .xor .u64 (p2 : Int) (x22 : Int) = (q2 : Int) ∧ bits .and .u64 (A : Int) (B : Int) = (n1 : Int) ∧ bits .and .u64 (A : Int) (C : Int) = (n2 : Int) ∧ bits .and .u64 (B : Int) (C : Int) = (n3 : Int) ∧ bits .xor .u64 (n1 : Int) (n2 : Int) = (n4 : Int) ∧ bits .xor .u64 (n4 : Int) (n3 : Int) = (j1 : Int)) :=
                              ⟨by rw [hp2]; exact xq x2b x13b, by rw [hq2]; exact xq p2b x22b, by rw [hn1]; exact aq Ab Bb, by rw [hn2]; exact aq Ab Cb, by rw [hn3]; exact aq Bb Cb, by rw [hn4]; exact xq n1b n2b, by rw [hj1]; exact xq n4b n3b⟩
                            obtain ⟨t1, ht1⟩ : ∃ z, z = (Z + q1 + c1 + KK + V) % 4294967296 := ⟨_, rfl⟩
                            obtain ⟨t2, ht2⟩ : ∃ z, z = (q2 + j1) % 4294967296 := ⟨_, rfl⟩
                            have HT1 := (show Hid _ from ht1)
                            have HT2 := (show Hid _ from ht2)
                            have t1b : t1 < 4294967296 := by omega
                            have t2b : t2 < 4294967296 := by omega
                            have HNX : Hid (rnds SS WW (k + 1) = [(t1 + t2) % 4294967296, A, B, C, (D + t1) % 4294967296, E, F, G]) := by
                              refine rnds_next HSK.out ?_ ?_
                              · rw [ht1, hq1, hc1, hp1, hx6, hx11, hx25, hm1, hm2, hnE, hKK, hV]
                                rfl
                              · rw [ht2, hq2, hp2, hx2, hx13, hx22, hj1, hn4, hn1, hn2, hn3]
                                rfl
                            have HR6 : Hid (∀ w, Calls Tryd.prog 23 #[.int .u64 (E : Int), .int .i64 6] w fun e w' => e = .returned (.int .u64 (x6 : Int)) ∧ Below w.heap.size w w') := fun w => by rw [hx6]; exact right_ok E 6 _ rfl w Eb (by unfold Turn; omega)
                            have HR11 : Hid (∀ w, Calls Tryd.prog 23 #[.int .u64 (E : Int), .int .i64 11] w fun e w' => e = .returned (.int .u64 (x11 : Int)) ∧ Below w.heap.size w w') := fun w => by rw [hx11]; exact right_ok E 11 _ rfl w Eb (by unfold Turn; omega)
                            have HR25 : Hid (∀ w, Calls Tryd.prog 23 #[.int .u64 (E : Int), .int .i64 25] w fun e w' => e = .returned (.int .u64 (x25 : Int)) ∧ Below w.heap.size w w') := fun w => by rw [hx25]; exact right_ok E 25 _ rfl w Eb (by unfold Turn; omega)
                            have HR2 : Hid (∀ w, Calls Tryd.prog 23 #[.int .u64 (A : Int), .int .i64 2] w fun e w' => e = .returned (.int .u64 (x2 : Int)) ∧ Below w.heap.size w w') := fun w => by rw [hx2]; exact right_ok A 2 _ rfl w Ab (by unfold Turn; omega)
                            have HR13 : Hid (∀ w, Calls Tryd.prog 23 #[.int .u64 (A : Int), .int .i64 13] w fun e w' => e = .returned (.int .u64 (x13 : Int)) ∧ Below w.heap.size w w') := fun w => by rw [hx13]; exact right_ok A 13 _ rfl w Ab (by unfold Turn; omega)
                            have HR22 : Hid (∀ w, Calls Tryd.prog 23 #[.int .u64 (A : Int), .int .i64 22] w fun e w' => e = .returned (.int .u64 (x22 : Int)) ∧ Below w.heap.size w w') := fun w => by rw [hx22]; exact right_ok A 22 _ rfl w Ab (by unfold Turn; omega)
                            have HNE := (show Hid _ from hnE)
                            clear hnE
                            have hke : (0 : Int) ≤ (k : Int) := by omega
                            have hk2 : (k : Int) < 64 := by omega
                            clear hKK hV hm1 hm2 hc1 hp1 hq1 hp2 hq2 hn1 hn2 hn3 hn4 hj1 ht1 ht2 hx6 hx11 hx25 hx2 hx13 hx22
                            go_upto_region 38 with fail
                            have QW_0 := (show Hid _ from (Q4.out.1.step QB.out).drew)
                            have QK_0 := (show Hid _ from (RK4.out.step QB.out).drew)
                            have QB_0 := (show Hid _ from QB.out.drew)
                            clear QB
                            refine wp_region_noPanic ?_
                            refine wp_region_held_drew (S := fun w' => VA w' W (cq WW) 41 ∧ VA w' kB (cw rts) 33) (by as_aux_lemma => kernel_rfl) ⟨QW_0.out, QK_0.out⟩ (fun hHeld => ?_)
                            refine takeD 0 179 (.int .u64 (Z : Int)) (by exact rfl) rfl (by as_aux_lemma => kernel_rfl) (by as_aux_lemma => kernel_rfl) (by as_aux_lemma => kernel_rfl) (fun _ _ _ h => h) (Or.inl ⟨by rfl, ?_⟩) (by assumption) ?_
                            · intro wq hS
                              go_simp
                            simp only [Act.put, List.setIfInBounds_toArray, List.set_cons_zero, List.set_cons_succ]
                            refine takeD 1 180 (.int .u64 (E : Int)) (by exact rfl) rfl (by as_aux_lemma => kernel_rfl) (by as_aux_lemma => kernel_rfl) (by as_aux_lemma => kernel_rfl) (fun _ _ _ h => h) (Or.inl ⟨by rfl, ?_⟩) (by assumption) ?_
                            · intro wq hS
                              go_simp
                            simp only [Act.put, List.setIfInBounds_toArray, List.set_cons_zero, List.set_cons_succ]
                            refine takeD 3 182 (.int .u64 (E : Int)) (by exact rfl) rfl (by as_aux_lemma => kernel_rfl) (by as_aux_lemma => kernel_rfl) (by as_aux_lemma => kernel_rfl) (fun _ _ _ h => h) (Or.inl ⟨by rfl, ?_⟩) (by assumption) ?_
                            · intro wq hS
                              go_simp
                            simp only [Act.put, List.setIfInBounds_toArray, List.set_cons_zero, List.set_cons_succ]
                            refine takeD 6 185 (.int .u64 (E : Int)) (by exact rfl) rfl (by as_aux_lemma => kernel_rfl) (by as_aux_lemma => kernel_rfl) (by as_aux_lemma => kernel_rfl) (fun _ _ _ h => h) (Or.inl ⟨by rfl, ?_⟩) (by assumption) ?_
                            · intro wq hS
                              go_simp
                            simp only [Act.put, List.setIfInBounds_toArray, List.set_cons_zero, List.set_cons_succ]
                            refine takeD 10 189 (.int .u64 (E : Int)) (by exact rfl) rfl (by as_aux_lemma => kernel_rfl) (by as_aux_lemma => kernel_rfl) (by as_aux_lemma => kernel_rfl) (fun _ _ _ h => h) (Or.inl ⟨by rfl, ?_⟩) (by assumption) ?_
                            · intro wq hS
                              go_simp
                            simp only [Act.put, List.setIfInBounds_toArray, List.set_cons_zero, List.set_cons_succ]
                            refine takeD 11 190 (.int .u64 (F : Int)) (by exact rfl) rfl (by as_aux_lemma => kernel_rfl) (by as_aux_lemma => kernel_rfl) (by as_aux_lemma => kernel_rfl) (fun _ _ _ h => h) (Or.inl ⟨by rfl, ?_⟩) (by assumption) ?_
                            · intro wq hS
                              go_simp
                            simp only [Act.put, List.setIfInBounds_toArray, List.set_cons_zero, List.set_cons_succ]
                            refine takeD 12 191 (.int .u64 (m1 : Int)) (by exact rfl) rfl (by as_aux_lemma => kernel_rfl) (by as_aux_lemma => kernel_rfl) (by as_aux_lemma => kernel_rfl) (fun _ _ _ h => h) (Or.inl ⟨by rfl, ?_⟩) (by assumption) ?_
                            · intro wq hS
                              go_simp
                              exact U.out.1
                            simp only [Act.put, List.setIfInBounds_toArray, List.set_cons_zero, List.set_cons_succ]
                            refine takeD 13 192 (.int .u64 (E : Int)) (by exact rfl) rfl (by as_aux_lemma => kernel_rfl) (by as_aux_lemma => kernel_rfl) (by as_aux_lemma => kernel_rfl) (fun _ _ _ h => h) (Or.inl ⟨by rfl, ?_⟩) (by assumption) ?_
                            · intro wq hS
                              go_simp
                            simp only [Act.put, List.setIfInBounds_toArray, List.set_cons_zero, List.set_cons_succ]
                            refine takeD 14 193 (.int .u64 (nE : Int)) (by exact rfl) rfl (by as_aux_lemma => kernel_rfl) (by as_aux_lemma => kernel_rfl) (by as_aux_lemma => kernel_rfl) (fun _ _ _ h => h) (Or.inl ⟨by rfl, ?_⟩) (by assumption) ?_
                            · intro wq hS
                              go_simp
                              rw [wrapU _ (by omega)]
                              have := HNE.out
                              omega
                            simp only [Act.put, List.setIfInBounds_toArray, List.set_cons_zero, List.set_cons_succ]
                            refine takeD 15 194 (.int .u64 (G : Int)) (by exact rfl) rfl (by as_aux_lemma => kernel_rfl) (by as_aux_lemma => kernel_rfl) (by as_aux_lemma => kernel_rfl) (fun _ _ _ h => h) (Or.inl ⟨by rfl, ?_⟩) (by assumption) ?_
                            · intro wq hS
                              go_simp
                            simp only [Act.put, List.setIfInBounds_toArray, List.set_cons_zero, List.set_cons_succ]
                            refine takeD 16 195 (.int .u64 (m2 : Int)) (by exact rfl) rfl (by as_aux_lemma => kernel_rfl) (by as_aux_lemma => kernel_rfl) (by as_aux_lemma => kernel_rfl) (fun _ _ _ h => h) (Or.inl ⟨by rfl, ?_⟩) (by assumption) ?_
                            · intro wq hS
                              go_simp
                              exact U.out.2.1
                            simp only [Act.put, List.setIfInBounds_toArray, List.set_cons_zero, List.set_cons_succ]
                            refine takeD 17 196 (.int .u64 (c1 : Int)) (by exact rfl) rfl (by as_aux_lemma => kernel_rfl) (by as_aux_lemma => kernel_rfl) (by as_aux_lemma => kernel_rfl) (fun _ _ _ h => h) (Or.inl ⟨by rfl, ?_⟩) (by assumption) ?_
                            · intro wq hS
                              go_simp
                              exact U.out.2.2.1
                            simp only [Act.put, List.setIfInBounds_toArray, List.set_cons_zero, List.set_cons_succ]
                            refine takeD 19 198 (.int .i64 (k : Int)) (by exact rfl) rfl (by as_aux_lemma => kernel_rfl) (by as_aux_lemma => kernel_rfl) (by as_aux_lemma => kernel_rfl) (fun _ _ _ h => h) (Or.inl ⟨by rfl, ?_⟩) (by assumption) ?_
                            · intro wq hS
                              go_simp
                            simp only [Act.put, List.setIfInBounds_toArray, List.set_cons_zero, List.set_cons_succ]
                            refine takeD 20 199 (.pointer (some ⟨kB, k, none⟩)) (by exact rfl) rfl (by as_aux_lemma => kernel_rfl) (by as_aux_lemma => kernel_rfl) (by as_aux_lemma => kernel_rfl) (fun _ _ _ h => h) (Or.inl ⟨by rfl, ?_⟩) (by assumption) ?_
                            · intro wq hS
                              go_simp
                            simp only [Act.put, List.setIfInBounds_toArray, List.set_cons_zero, List.set_cons_succ]
                            refine takeD 21 200 (.int .u32 (KK : Int)) (by exact rfl) rfl (by as_aux_lemma => kernel_rfl) (by as_aux_lemma => kernel_rfl) (by as_aux_lemma => kernel_rfl) (fun _ _ _ h => h) (Or.inl ⟨by rfl, ?_⟩) (by assumption) ?_
                            · intro wq hS
                              have c := hS.2.cell k HCK.out
                              go_simp
                            simp only [Act.put, List.setIfInBounds_toArray, List.set_cons_zero, List.set_cons_succ]
                            refine takeD 22 201 (.int .u64 (KK : Int)) (by exact rfl) rfl (by as_aux_lemma => kernel_rfl) (by as_aux_lemma => kernel_rfl) (by as_aux_lemma => kernel_rfl) (fun _ _ _ h => h) (Or.inl ⟨by rfl, ?_⟩) (by assumption) ?_
                            · intro wq hS
                              go_simp
                              first | exact wrapU _ (by omega) | exact wrapI _ (by omega)
                            simp only [Act.put, List.setIfInBounds_toArray, List.set_cons_zero, List.set_cons_succ]
                            refine takeD 24 203 (.slice (some ⟨W, 0, none⟩) 64 64) (by exact rfl) rfl (by as_aux_lemma => kernel_rfl) (by as_aux_lemma => kernel_rfl) (by as_aux_lemma => kernel_rfl) (fun _ _ _ h => h) (Or.inl ⟨by rfl, ?_⟩) (by assumption) ?_
                            · intro wq hS
                              go_simp
                            simp only [Act.put, List.setIfInBounds_toArray, List.set_cons_zero, List.set_cons_succ]
                            refine takeD 25 204 (.int .i64 (k : Int)) (by exact rfl) rfl (by as_aux_lemma => kernel_rfl) (by as_aux_lemma => kernel_rfl) (by as_aux_lemma => kernel_rfl) (fun _ _ _ h => h) (Or.inl ⟨by rfl, ?_⟩) (by assumption) ?_
                            · intro wq hS
                              go_simp
                            simp only [Act.put, List.setIfInBounds_toArray, List.set_cons_zero, List.set_cons_succ]
                            refine takeD 26 205 (.pointer (some ⟨W, k, none⟩)) (by exact rfl) rfl (by as_aux_lemma => kernel_rfl) (by as_aux_lemma => kernel_rfl) (by as_aux_lemma => kernel_rfl) (fun _ _ _ h => h) (Or.inl ⟨by rfl, ?_⟩) (by assumption) ?_
                            · intro wq hS
                              go_simp
                            simp only [Act.put, List.setIfInBounds_toArray, List.set_cons_zero, List.set_cons_succ]
                            refine takeD 27 206 (.int .u64 (V : Int)) (by exact rfl) rfl (by as_aux_lemma => kernel_rfl) (by as_aux_lemma => kernel_rfl) (by as_aux_lemma => kernel_rfl) (fun _ _ _ h => h) (Or.inl ⟨by rfl, ?_⟩) (by assumption) ?_
                            · intro wq hS
                              have c := hS.1.cell k HCV.out
                              go_simp
                            simp only [Act.put, List.setIfInBounds_toArray, List.set_cons_zero, List.set_cons_succ]
                            clear hHeld
                            generalize wr.drew = wz at *
                            refine wpAnyH_ready (rs := [2]) (by as_aux_lemma => kernel_rfl) (by simp) ?_
                            refine AllReadyH.cons (by exact rfl) (fun K hK => ?_) AllReadyH.nil
                            go_simp
                            refine (HR6.out _).mono ?_
                            rintro e w1 ⟨rfl, b1⟩
                            have QW_1 := (show Hid _ from QW_0.out.step b1)
                            have QK_1 := (show Hid _ from QK_0.out.step b1)
                            have QB_1 := (show Hid _ from QB_0.out.trans (b1.mono QB_0.out.size))
                            clear b1 QW_0 QK_0 QB_0
                            go_wp2_with fail
                            refine hK.out _ _ ⟨QW_1.out, QK_1.out⟩ (fun hHeld => ?_)
                            try simp only [Act.put, List.setIfInBounds_toArray, List.set_cons_zero, List.set_cons_succ]
                            clear hK K
                            clear hHeld
                            refine wpAnyH_ready (rs := [4]) (by as_aux_lemma => kernel_rfl) (by simp) ?_
                            refine AllReadyH.cons (by exact rfl) (fun K hK => ?_) AllReadyH.nil
                            go_simp
                            refine (HR11.out _).mono ?_
                            rintro e w2 ⟨rfl, b2⟩
                            have QW_2 := (show Hid _ from QW_1.out.step b2)
                            have QK_2 := (show Hid _ from QK_1.out.step b2)
                            have QB_2 := (show Hid _ from QB_1.out.trans (b2.mono QB_1.out.size))
                            clear b2 QW_1 QK_1 QB_1
                            go_wp2_with fail
                            refine hK.out _ _ ⟨QW_2.out, QK_2.out⟩ (fun hHeld => ?_)
                            try simp only [Act.put, List.setIfInBounds_toArray, List.set_cons_zero, List.set_cons_succ]
                            clear hK K
                            refine takeD 5 184 (.int .u64 (p1 : Int)) (by exact rfl) rfl (by as_aux_lemma => kernel_rfl) (by as_aux_lemma => kernel_rfl) (by as_aux_lemma => kernel_rfl) (fun _ _ _ h => h) (Or.inl ⟨by rfl, ?_⟩) (by assumption) ?_
                            · intro wq hS
                              go_simp
                              exact U.out.2.2.2.1
                            simp only [Act.put, List.setIfInBounds_toArray, List.set_cons_zero, List.set_cons_succ]
                            clear hHeld
                            refine wpAnyH_ready (rs := [7]) (by as_aux_lemma => kernel_rfl) (by simp) ?_
                            refine AllReadyH.cons (by exact rfl) (fun K hK => ?_) AllReadyH.nil
                            go_simp
                            refine (HR25.out _).mono ?_
                            rintro e w3 ⟨rfl, b3⟩
                            have QW_3 := (show Hid _ from QW_2.out.step b3)
                            have QK_3 := (show Hid _ from QK_2.out.step b3)
                            have QB_3 := (show Hid _ from QB_2.out.trans (b3.mono QB_2.out.size))
                            clear b3 QW_2 QK_2 QB_2
                            go_wp2_with fail
                            refine hK.out _ _ ⟨QW_3.out, QK_3.out⟩ (fun hHeld => ?_)
                            try simp only [Act.put, List.setIfInBounds_toArray, List.set_cons_zero, List.set_cons_succ]
                            clear hK K
                            refine takeD 8 187 (.int .u64 (q1 : Int)) (by exact rfl) rfl (by as_aux_lemma => kernel_rfl) (by as_aux_lemma => kernel_rfl) (by as_aux_lemma => kernel_rfl) (fun _ _ _ h => h) (Or.inl ⟨by rfl, ?_⟩) (by assumption) ?_
                            · intro wq hS
                              go_simp
                              exact U.out.2.2.2.2
                            simp only [Act.put, List.setIfInBounds_toArray, List.set_cons_zero, List.set_cons_succ]
                            refine takeD 9 188 (.int .u64 ((Z : Int) + (q1 : Int))) (by exact rfl) rfl (by as_aux_lemma => kernel_rfl) (by as_aux_lemma => kernel_rfl) (by as_aux_lemma => kernel_rfl) (fun _ _ _ h => h) (Or.inl ⟨by rfl, ?_⟩) (by assumption) ?_
                            · intro wq hS
                              go_simp
                              first | exact wrapU _ (by omega) | exact wrapI _ (by omega)
                            simp only [Act.put, List.setIfInBounds_toArray, List.set_cons_zero, List.set_cons_succ]
                            refine takeD 18 197 (.int .u64 ((Z : Int) + (q1 : Int) + (c1 : Int))) (by exact rfl) rfl (by as_aux_lemma => kernel_rfl) (by as_aux_lemma => kernel_rfl) (by as_aux_lemma => kernel_rfl) (fun _ _ _ h => h) (Or.inl ⟨by rfl, ?_⟩) (by assumption) ?_
                            · intro wq hS
                              go_simp
                              first | exact wrapU _ (by omega) | exact wrapI _ (by omega)
                            simp only [Act.put, List.setIfInBounds_toArray, List.set_cons_zero, List.set_cons_succ]
                            refine takeD 23 202 (.int .u64 ((Z : Int) + (q1 : Int) + (c1 : Int) + (KK : Int))) (by exact rfl) rfl (by as_aux_lemma => kernel_rfl) (by as_aux_lemma => kernel_rfl) (by as_aux_lemma => kernel_rfl) (fun _ _ _ h => h) (Or.inl ⟨by rfl, ?_⟩) (by assumption) ?_
                            · intro wq hS
                              go_simp
                              first | exact wrapU _ (by omega) | exact wrapI _ (by omega)
                            simp only [Act.put, List.setIfInBounds_toArray, List.set_cons_zero, List.set_cons_succ]
                            refine takeD 28 207 (.int .u64 ((Z : Int) + (q1 : Int) + (c1 : Int) + (KK : Int) + (V : Int))) (by exact rfl) rfl (by as_aux_lemma => kernel_rfl) (by as_aux_lemma => kernel_rfl) (by as_aux_lemma => kernel_rfl) (fun _ _ _ h => h) (Or.inl ⟨by rfl, ?_⟩) (by assumption) ?_
                            · intro wq hS
                              go_simp
                              first | exact wrapU _ (by omega) | exact wrapI _ (by omega)
                            simp only [Act.put, List.setIfInBounds_toArray, List.set_cons_zero, List.set_cons_succ]
                            refine takeD 29 208 (.int .u64 (t1 : Int)) (by exact rfl) rfl (by as_aux_lemma => kernel_rfl) (by as_aux_lemma => kernel_rfl) (by as_aux_lemma => kernel_rfl) (fun _ _ _ h => h) (Or.inl ⟨by rfl, ?_⟩) (by assumption) ?_
                            · intro wq hS
                              go_simp
                              rw [Int.tmod_eq_emod_of_nonneg (by omega)]
                              have := HT1.out
                              omega
                            simp only [Act.put, List.setIfInBounds_toArray, List.set_cons_zero, List.set_cons_succ]
                            refine takeD 30 27 (.int .u64 (t1 : Int)) (by exact rfl) rfl (by as_aux_lemma => kernel_rfl) (by as_aux_lemma => kernel_rfl) (by as_aux_lemma => kernel_rfl) (fun _ _ _ h => h) (Or.inl ⟨by rfl, ?_⟩) (by assumption) ?_
                            · intro wq hS
                              go_simp
                            simp only [Act.put, List.setIfInBounds_toArray, List.set_cons_zero, List.set_cons_succ]
                            clear hHeld
                            refine wpAnyH_done (by as_aux_lemma => kernel_rfl) ?_ _
                            refine NoPanic.normal ?_
                            clear QW_3 QK_3 U
                            have u1 := U2.out.1
                            have u2 := U2.out.2.1
                            have u3 := U2.out.2.2.1
                            have u4 := U2.out.2.2.2.1
                            have u5 := U2.out.2.2.2.2.1
                            have u6 := U2.out.2.2.2.2.2.1
                            have u7 := U2.out.2.2.2.2.2.2
                            go_wp2_with fail
                            refine (HR2.out _).mono ?_
                            rintro e w7 ⟨rfl, b7⟩
                            have QB_4 := (show Hid _ from QB_3.out.trans (b7.mono QB_3.out.size))
                            clear b7 QB_3
                            go_wp2_with fail
                            refine (HR13.out _).mono ?_
                            rintro e w8 ⟨rfl, b8⟩
                            have QB_5 := (show Hid _ from QB_4.out.trans (b8.mono QB_4.out.size))
                            clear b8 QB_4
                            go_wp2_with fail
                            refine (HR22.out _).mono ?_
                            rintro e w9 ⟨rfl, b9⟩
                            have QB_6 := (show Hid _ from QB_5.out.trans (b9.mono QB_5.out.size))
                            clear b9 QB_5
                            have e1 : ((q2 : Int) + (j1 : Int)).tmod 4294967296 = (t2 : Int) := by rw [Int.tmod_eq_emod_of_nonneg (by omega)]; have := HT2.out; omega
                            have e2 : ((D : Int) + (t1 : Int)).tmod 4294967296 = (((D + t1) % 4294967296 : Nat) : Int) := by rw [Int.tmod_eq_emod_of_nonneg (by omega)]; omega
                            have e3 : ((t1 : Int) + (t2 : Int)).tmod 4294967296 = (((t1 + t2) % 4294967296 : Nat) : Int) := by rw [Int.tmod_eq_emod_of_nonneg (by omega)]; omega
                            obtain ⟨nD, hnD⟩ : ∃ z, z = (D + t1) % 4294967296 := ⟨_, rfl⟩
                            obtain ⟨nA, hnA⟩ : ∃ z, z = (t1 + t2) % 4294967296 := ⟨_, rfl⟩
                            rw [← hnD] at e2
                            rw [← hnA] at e3
                            have HN2 : Hid (rnds SS WW (k + 1) = [nA, A, B, C, nD, E, F, G]) := by rw [hnA, hnD]; exact HNX.out
                            clear hnD hnA
                            go_wp2_with fail
                            refine ⟨⟨_, _, _, _, _, _, _, _, _, _, _, _, _, _, _, _, _, _, _, _, _, _, _, _, _, _, _, _, _, _, _, _, _, _, _, _, _, _, _, _, _, _, _, _, _, _, _, _, _, _, _, _, _, _, _, _, _, _, _, _, _, _, _, _, _, _, _, _, _, _, _, _, _, _, _, _, _, _, _, _, ?_, rfl⟩, by simp [intOf]; omega⟩
                            exact ⟨k + 1, nA, A, B, C, nD, E, F, G, by omega, rfl, rfl, rfl, rfl, rfl, rfl, rfl, rfl, by go_num, HN2, QB_6⟩
                    · have hk' : k < 48 := by omega
                      have q1 : 16 + (k : Int) < 64 := by omega
                      have q0 : (0 : Int) ≤ (k : Int) := by omega
                      have q3 : (k : Int) < 64 := by omega
                      obtain ⟨SK, hSK⟩ : ∃ SK, SK = sch FW k := ⟨_, rfl⟩
                      have SL : Hid (SK.length = 64) := by rw [hSK]; exact sch_len FW FL.out k
                      have SM : Hid (∀ x ∈ SK, x < 4294967296) := by rw [hSK]; exact sch_small FS.out k
                      have HSK := (show Hid _ from hSK)
                      rw [← hSK] at Q2
                      obtain ⟨k1, hk1⟩ : ∃ z, z = k + 1 := ⟨_, rfl⟩
                      obtain ⟨k2, hk2⟩ : ∃ z, z = 14 + k := ⟨_, rfl⟩
                      obtain ⟨k7, hk7⟩ : ∃ z, z = 9 + k := ⟨_, rfl⟩
                      obtain ⟨kk, hkk⟩ : ∃ z, z = 16 + k := ⟨_, rfl⟩
                      obtain ⟨X, hX⟩ : ∃ X, X = SK.getD k1 0 := ⟨_, rfl⟩
                      obtain ⟨Y, hY⟩ : ∃ X, X = SK.getD k2 0 := ⟨_, rfl⟩
                      obtain ⟨Z, hZ⟩ : ∃ X, X = SK.getD k 0 := ⟨_, rfl⟩
                      obtain ⟨V7, hV⟩ : ∃ X, X = SK.getD k7 0 := ⟨_, rfl⟩
                      have xb : X < 4294967296 := by rw [hX]; exact getD_small SM.out k1
                      have yb : Y < 4294967296 := by rw [hY]; exact getD_small SM.out k2
                      have zb : Z < 4294967296 := by rw [hZ]; exact getD_small SM.out k
                      have vb : V7 < 4294967296 := by rw [hV]; exact getD_small SM.out k7
                      obtain ⟨x0, hx0⟩ : ∃ z, z = s0 X := ⟨_, rfl⟩
                      obtain ⟨y1, hy1⟩ : ∃ z, z = s1 Y := ⟨_, rfl⟩
                      have HNW : Hid (nextW SK kk = (Z + x0 + V7 + y1) % 4294967296) := by
                        show nextW SK kk = _
                        unfold nextW
                        rw [show kk - 16 = k by omega, show kk - 15 = k1 by omega, show kk - 7 = k7 by omega, show kk - 2 = k2 by omega, ← hX, ← hY, ← hZ, ← hV, ← hx0, ← hy1]
                      have a7 := rot_lt (n := 7) xb
                      have a18 := rot_lt (n := 18) xb
                      have a17 := rot_lt (n := 17) yb
                      have a19 := rot_lt (n := 19) yb
                      have u1 := xq a7 a18
                      have u2 : bits .xor .u64 ((rot X 7 ^^^ rot X 18 : Nat) : Int) ((X : Int) / 8) = (x0 : Int) := by
                        have := xq (xor32 a7 a18) (div_small (n := 8) xb)
                        rw [hx0]
                        rw [Int.natCast_ediv] at this
                        exact this
                      have u3 := xq a17 a19
                      have u4 : bits .xor .u64 ((rot Y 17 ^^^ rot Y 19 : Nat) : Int) ((Y : Int) / 1024) = (y1 : Int) := by
                        have := xq (xor32 a17 a19) (div_small (n := 1024) yb)
                        rw [hy1]
                        rw [Int.natCast_ediv] at this
                        exact this
                      have x0b : x0 < 4294967296 := by rw [hx0]; exact xor32 (xor32 a7 a18) (div_small xb)
                      have y1b : y1 < 4294967296 := by rw [hy1]; exact xor32 (xor32 a17 a19) (div_small yb)
                      have HU4 := (show Hid _ from And.intro u1 (And.intro u2 (And.intro u3 u4)))
                      have cX := Q2.out.1.cell k1 (cq_get SK k1 (by rw [SL.out]; omega))
                      have cY := Q2.out.1.cell k2 (cq_get SK k2 (by rw [SL.out]; omega))
                      rw [← hX] at cX
                      rw [← hY] at cY
                      have HZC := (show Hid _ from hZ)
                      have HVC := (show Hid _ from hV)
                      have b1 : Hid ((k1 : Int) = (k : Int) + 1) := by show (k1 : Int) = _; omega
                      have b2 : Hid ((k2 : Int) = 14 + (k : Int)) := by show (k2 : Int) = _; omega
                      have b7 : Hid ((k7 : Int) = 9 + (k : Int)) := by show (k7 : Int) = _; omega
                      have b16 : Hid (kk = 16 + k) := hkk
                      have i1 : (0 : Int) ≤ (k1 : Int) := by omega
                      have i2 : (0 : Int) ≤ (k2 : Int) := by omega
                      have i3 : (k1 : Int) < 64 := by omega
                      have i4 : (k2 : Int) < 64 := by omega
                      have i5 : (0 : Int) ≤ (k7 : Int) := by omega
                      have i6 : (k7 : Int) < 64 := by omega
                      have i7 : (0 : Int) ≤ 16 + (k : Int) := by omega
                      have t16 : (16 + (k : Int)).toNat = kk := by omega
                      clear hX hY hZ hV hSK hk1 hk2 hk7 hkk u1 u2 u3 u4 hx0 hy1
                      go_upto_region 30 with fail
                      refine wp_region_noPanic ?_
                      refine wp_region_held_drew (S := fun w' => w'.cell? ⟨W, k1, none⟩ = some (.int .u64 (X : Int)) ∧ w'.cell? ⟨W, k2, none⟩ = some (.int .u64 (Y : Int))) (by as_aux_lemma => kernel_rfl) ⟨cX, cY⟩ (fun hHeld => ?_)
                      refine takeD 0 107 (.slice (some ⟨W, 0, none⟩) 64 64) (by exact rfl) rfl (by as_aux_lemma => kernel_rfl) (by as_aux_lemma => kernel_rfl) (by as_aux_lemma => kernel_rfl) (fun _ _ _ h => h) (Or.inl ⟨by rfl, ?_⟩) (by assumption) ?_
                      · intro wq hS
                        go_simp
                      simp only [Act.put, List.setIfInBounds_toArray, List.set_cons_zero, List.set_cons_succ]
                      refine takeD 1 108 (.int .i64 (16 + (k : Int))) (by exact rfl) rfl (by as_aux_lemma => kernel_rfl) (by as_aux_lemma => kernel_rfl) (by as_aux_lemma => kernel_rfl) (fun _ _ _ h => h) (Or.inl ⟨by rfl, ?_⟩) (by assumption) ?_
                      · intro wq hS
                        go_simp
                      simp only [Act.put, List.setIfInBounds_toArray, List.set_cons_zero, List.set_cons_succ]
                      refine takeD 2 109 (.int .i64 (k1 : Int)) (by exact rfl) rfl (by as_aux_lemma => kernel_rfl) (by as_aux_lemma => kernel_rfl) (by as_aux_lemma => kernel_rfl) (fun _ _ _ h => h) (Or.inl ⟨by rfl, ?_⟩) (by assumption) ?_
                      · intro wq hS
                        have bb := b1.out
                        go_simp
                        rw [wrapI _ (by omega)]
                        omega
                      simp only [Act.put, List.setIfInBounds_toArray, List.set_cons_zero, List.set_cons_succ]
                      refine takeD 3 110 (.pointer (some ⟨W, k1, none⟩)) (by exact rfl) rfl (by as_aux_lemma => kernel_rfl) (by as_aux_lemma => kernel_rfl) (by as_aux_lemma => kernel_rfl) (fun _ _ _ h => h) (Or.inl ⟨by rfl, ?_⟩) (by assumption) ?_
                      · intro wq hS
                        go_simp
                      simp only [Act.put, List.setIfInBounds_toArray, List.set_cons_zero, List.set_cons_succ]
                      refine takeD 4 111 (.int .u64 (X : Int)) (by exact rfl) rfl (by as_aux_lemma => kernel_rfl) (by as_aux_lemma => kernel_rfl) (by as_aux_lemma => kernel_rfl) (fun _ _ _ h => h) (Or.inl ⟨by rfl, ?_⟩) (by assumption) ?_
                      · intro wq hS
                        have c := hS.1
                        go_simp
                      simp only [Act.put, List.setIfInBounds_toArray, List.set_cons_zero, List.set_cons_succ]
                      refine takeD 5 112 (.slice (some ⟨W, 0, none⟩) 64 64) (by exact rfl) rfl (by as_aux_lemma => kernel_rfl) (by as_aux_lemma => kernel_rfl) (by as_aux_lemma => kernel_rfl) (fun _ _ _ h => h) (Or.inl ⟨by rfl, ?_⟩) (by assumption) ?_
                      · intro wq hS
                        go_simp
                      simp only [Act.put, List.setIfInBounds_toArray, List.set_cons_zero, List.set_cons_succ]
                      refine takeD 6 113 (.int .i64 (16 + (k : Int))) (by exact rfl) rfl (by as_aux_lemma => kernel_rfl) (by as_aux_lemma => kernel_rfl) (by as_aux_lemma => kernel_rfl) (fun _ _ _ h => h) (Or.inl ⟨by rfl, ?_⟩) (by assumption) ?_
                      · intro wq hS
                        go_simp
                      simp only [Act.put, List.setIfInBounds_toArray, List.set_cons_zero, List.set_cons_succ]
                      refine takeD 7 114 (.int .i64 (k2 : Int)) (by exact rfl) rfl (by as_aux_lemma => kernel_rfl) (by as_aux_lemma => kernel_rfl) (by as_aux_lemma => kernel_rfl) (fun _ _ _ h => h) (Or.inl ⟨by rfl, ?_⟩) (by assumption) ?_
                      · intro wq hS
                        have bb := b2.out
                        go_simp
                        rw [wrapI _ (by omega)]
                        omega
                      simp only [Act.put, List.setIfInBounds_toArray, List.set_cons_zero, List.set_cons_succ]
                      refine takeD 8 115 (.pointer (some ⟨W, k2, none⟩)) (by exact rfl) rfl (by as_aux_lemma => kernel_rfl) (by as_aux_lemma => kernel_rfl) (by as_aux_lemma => kernel_rfl) (fun _ _ _ h => h) (Or.inl ⟨by rfl, ?_⟩) (by assumption) ?_
                      · intro wq hS
                        go_simp
                      simp only [Act.put, List.setIfInBounds_toArray, List.set_cons_zero, List.set_cons_succ]
                      refine takeD 9 116 (.int .u64 (Y : Int)) (by exact rfl) rfl (by as_aux_lemma => kernel_rfl) (by as_aux_lemma => kernel_rfl) (by as_aux_lemma => kernel_rfl) (fun _ _ _ h => h) (Or.inl ⟨by rfl, ?_⟩) (by assumption) ?_
                      · intro wq hS
                        have c := hS.2
                        go_simp
                      simp only [Act.put, List.setIfInBounds_toArray, List.set_cons_zero, List.set_cons_succ]
                      refine takeD 10 14 (.int .u64 (X : Int)) (by exact rfl) rfl (by as_aux_lemma => kernel_rfl) (by as_aux_lemma => kernel_rfl) (by as_aux_lemma => kernel_rfl) (fun _ _ _ h => h) (Or.inl ⟨by rfl, ?_⟩) (by assumption) ?_
                      · intro wq hS
                        go_simp
                      simp only [Act.put, List.setIfInBounds_toArray, List.set_cons_zero, List.set_cons_succ]
                      refine takeD 11 15 (.int .u64 (Y : Int)) (by exact rfl) rfl (by as_aux_lemma => kernel_rfl) (by as_aux_lemma => kernel_rfl) (by as_aux_lemma => kernel_rfl) (fun _ _ _ h => h) (Or.inl ⟨by rfl, ?_⟩) (by assumption) ?_
                      · intro wq hS
                        go_simp
                      simp only [Act.put, List.setIfInBounds_toArray, List.set_cons_zero, List.set_cons_succ]
                      refine wpAnyH_done (by as_aux_lemma => kernel_rfl) ?_ _
                      refine NoPanic.normal ?_
                      have Q3 : Hid (VA wr.drew W (cq SK) 41 ∧ Ex W w5 wr.drew) := ⟨Q2.out.1.drew, Q2.out.2.bel (Below.refl _ _).drew⟩
                      clear Q2 cX cY hHeld
                      generalize wr.drew = w6 at *
                      have u1 := HU4.out.1
                      have u2 := HU4.out.2.1
                      go_wp2_with fail
                      refine (right_ok X 7 _ rfl _ xb (by unfold Turn; omega)).mono ?_
                      rintro e w7 ⟨rfl, b7'⟩
                      have Q4 : Hid (VA w7 W (cq SK) 41 ∧ Ex W w5 w7) := ⟨Q3.out.1.step b7', Q3.out.2.bel b7'⟩
                      clear b7' Q3
                      go_wp2_with fail
                      refine (right_ok X 18 _ rfl _ xb (by unfold Turn; omega)).mono ?_
                      rintro e w8 ⟨rfl, b8⟩
                      have Q5 : Hid (VA w8 W (cq SK) 41 ∧ Ex W w5 w8) := ⟨Q4.out.1.step b8, Q4.out.2.bel b8⟩
                      clear b8 Q4
                      go_wp2_with fail
                      clear u1 u2
                      have u3 := HU4.out.2.2.1
                      have u4 := HU4.out.2.2.2
                      refine (right_ok Y 17 _ rfl _ yb (by unfold Turn; omega)).mono ?_
                      rintro e w9 ⟨rfl, b9⟩
                      have Q6 : Hid (VA w9 W (cq SK) 41 ∧ Ex W w5 w9) := ⟨Q5.out.1.step b9, Q5.out.2.bel b9⟩
                      clear b9 Q5
                      go_wp2_with fail
                      refine (right_ok Y 19 _ rfl _ yb (by unfold Turn; omega)).mono ?_
                      rintro e wa ⟨rfl, ba⟩
                      have Q7 : Hid (VA wa W (cq SK) 41 ∧ Ex W w5 wa) := ⟨Q6.out.1.step ba, Q6.out.2.bel ba⟩
                      clear ba Q6
                      go_upto_region 33 with fail
                      clear u3 u4
                      have cZ := Q7.out.1.cell k (cq_get SK k (by rw [SL.out]; omega))
                      have cV := Q7.out.1.cell k7 (cq_get SK k7 (by rw [SL.out]; have := b7.out; omega))
                      rw [← HZC.out] at cZ
                      rw [← HVC.out] at cV
                      have cK := Q7.out.1.cell kk (cq_get SK kk (by rw [SL.out, b16.out]; omega))
                      have fK := Q7.out.1.free kk
                      refine wp_region_noPanic ?_
                      refine wp_region_held_drew (S := fun w' => w'.cell? ⟨W, k, none⟩ = some (.int .u64 (Z : Int)) ∧ w'.cell? ⟨W, k7, none⟩ = some (.int .u64 (V7 : Int))) (by as_aux_lemma => kernel_rfl) ⟨cZ, cV⟩ (fun hHeld => ?_)
                      refine takeD 0 133 (.slice (some ⟨W, 0, none⟩) 64 64) (by exact rfl) rfl (by as_aux_lemma => kernel_rfl) (by as_aux_lemma => kernel_rfl) (by as_aux_lemma => kernel_rfl) (fun _ _ _ h => h) (Or.inl ⟨by rfl, ?_⟩) (by assumption) ?_
                      · intro wq hS
                        go_simp
                      simp only [Act.put, List.setIfInBounds_toArray, List.set_cons_zero, List.set_cons_succ]
                      refine takeD 1 134 (.int .i64 (16 + (k : Int))) (by exact rfl) rfl (by as_aux_lemma => kernel_rfl) (by as_aux_lemma => kernel_rfl) (by as_aux_lemma => kernel_rfl) (fun _ _ _ h => h) (Or.inl ⟨by rfl, ?_⟩) (by assumption) ?_
                      · intro wq hS
                        go_simp
                      simp only [Act.put, List.setIfInBounds_toArray, List.set_cons_zero, List.set_cons_succ]
                      refine takeD 2 135 (.slice (some ⟨W, 0, none⟩) 64 64) (by exact rfl) rfl (by as_aux_lemma => kernel_rfl) (by as_aux_lemma => kernel_rfl) (by as_aux_lemma => kernel_rfl) (fun _ _ _ h => h) (Or.inl ⟨by rfl, ?_⟩) (by assumption) ?_
                      · intro wq hS
                        go_simp
                      simp only [Act.put, List.setIfInBounds_toArray, List.set_cons_zero, List.set_cons_succ]
                      refine takeD 3 136 (.int .i64 (16 + (k : Int))) (by exact rfl) rfl (by as_aux_lemma => kernel_rfl) (by as_aux_lemma => kernel_rfl) (by as_aux_lemma => kernel_rfl) (fun _ _ _ h => h) (Or.inl ⟨by rfl, ?_⟩) (by assumption) ?_
                      · intro wq hS
                        go_simp
                      simp only [Act.put, List.setIfInBounds_toArray, List.set_cons_zero, List.set_cons_succ]
                      refine takeD 4 137 (.int .i64 (k : Int)) (by exact rfl) rfl (by as_aux_lemma => kernel_rfl) (by as_aux_lemma => kernel_rfl) (by as_aux_lemma => kernel_rfl) (fun _ _ _ h => h) (Or.inl ⟨by rfl, ?_⟩) (by assumption) ?_
                      · intro wq hS
                        go_simp
                        rw [wrapI _ (by omega)]
                        omega
                      simp only [Act.put, List.setIfInBounds_toArray, List.set_cons_zero, List.set_cons_succ]
                      refine takeD 5 138 (.pointer (some ⟨W, k, none⟩)) (by exact rfl) rfl (by as_aux_lemma => kernel_rfl) (by as_aux_lemma => kernel_rfl) (by as_aux_lemma => kernel_rfl) (fun _ _ _ h => h) (Or.inl ⟨by rfl, ?_⟩) (by assumption) ?_
                      · intro wq hS
                        go_simp
                      simp only [Act.put, List.setIfInBounds_toArray, List.set_cons_zero, List.set_cons_succ]
                      refine takeD 6 139 (.int .u64 (Z : Int)) (by exact rfl) rfl (by as_aux_lemma => kernel_rfl) (by as_aux_lemma => kernel_rfl) (by as_aux_lemma => kernel_rfl) (fun _ _ _ h => h) (Or.inl ⟨by rfl, ?_⟩) (by assumption) ?_
                      · intro wq hS
                        have c := hS.1
                        go_simp
                      simp only [Act.put, List.setIfInBounds_toArray, List.set_cons_zero, List.set_cons_succ]
                      refine takeD 7 140 (.int .u64 (x0 : Int)) (by exact rfl) rfl (by as_aux_lemma => kernel_rfl) (by as_aux_lemma => kernel_rfl) (by as_aux_lemma => kernel_rfl) (fun _ _ _ h => h) (Or.inl ⟨by rfl, ?_⟩) (by assumption) ?_
                      · intro wq hS
                        go_simp
                      simp only [Act.put, List.setIfInBounds_toArray, List.set_cons_zero, List.set_cons_succ]
                      refine takeD 8 141 (.int .u64 ((Z : Int) + (x0 : Int))) (by exact rfl) rfl (by as_aux_lemma => kernel_rfl) (by as_aux_lemma => kernel_rfl) (by as_aux_lemma => kernel_rfl) (fun _ _ _ h => h) (Or.inl ⟨by rfl, ?_⟩) (by assumption) ?_
                      · intro wq hS
                        go_simp
                        first | exact wrapU _ (by omega) | exact wrapI _ (by omega)
                      simp only [Act.put, List.setIfInBounds_toArray, List.set_cons_zero, List.set_cons_succ]
                      refine takeD 9 142 (.slice (some ⟨W, 0, none⟩) 64 64) (by exact rfl) rfl (by as_aux_lemma => kernel_rfl) (by as_aux_lemma => kernel_rfl) (by as_aux_lemma => kernel_rfl) (fun _ _ _ h => h) (Or.inl ⟨by rfl, ?_⟩) (by assumption) ?_
                      · intro wq hS
                        go_simp
                      simp only [Act.put, List.setIfInBounds_toArray, List.set_cons_zero, List.set_cons_succ]
                      refine takeD 10 143 (.int .i64 (16 + (k : Int))) (by exact rfl) rfl (by as_aux_lemma => kernel_rfl) (by as_aux_lemma => kernel_rfl) (by as_aux_lemma => kernel_rfl) (fun _ _ _ h => h) (Or.inl ⟨by rfl, ?_⟩) (by assumption) ?_
                      · intro wq hS
                        go_simp
                      simp only [Act.put, List.setIfInBounds_toArray, List.set_cons_zero, List.set_cons_succ]
                      refine takeD 11 144 (.int .i64 (k7 : Int)) (by exact rfl) rfl (by as_aux_lemma => kernel_rfl) (by as_aux_lemma => kernel_rfl) (by as_aux_lemma => kernel_rfl) (fun _ _ _ h => h) (Or.inl ⟨by rfl, ?_⟩) (by assumption) ?_
                      · intro wq hS
                        have bb := b7.out
                        go_simp
                        rw [wrapI _ (by omega)]
                        omega
                      simp only [Act.put, List.setIfInBounds_toArray, List.set_cons_zero, List.set_cons_succ]
                      refine takeD 12 145 (.pointer (some ⟨W, k7, none⟩)) (by exact rfl) rfl (by as_aux_lemma => kernel_rfl) (by as_aux_lemma => kernel_rfl) (by as_aux_lemma => kernel_rfl) (fun _ _ _ h => h) (Or.inl ⟨by rfl, ?_⟩) (by assumption) ?_
                      · intro wq hS
                        go_simp
                      simp only [Act.put, List.setIfInBounds_toArray, List.set_cons_zero, List.set_cons_succ]
                      refine takeD 13 146 (.int .u64 (V7 : Int)) (by exact rfl) rfl (by as_aux_lemma => kernel_rfl) (by as_aux_lemma => kernel_rfl) (by as_aux_lemma => kernel_rfl) (fun _ _ _ h => h) (Or.inl ⟨by rfl, ?_⟩) (by assumption) ?_
                      · intro wq hS
                        have c := hS.2
                        go_simp
                      simp only [Act.put, List.setIfInBounds_toArray, List.set_cons_zero, List.set_cons_succ]
                      refine takeD 14 147 (.int .u64 ((Z : Int) + (x0 : Int) + (V7 : Int))) (by exact rfl) rfl (by as_aux_lemma => kernel_rfl) (by as_aux_lemma => kernel_rfl) (by as_aux_lemma => kernel_rfl) (fun _ _ _ h => h) (Or.inl ⟨by rfl, ?_⟩) (by assumption) ?_
                      · intro wq hS
                        go_simp
                        first | exact wrapU _ (by omega) | exact wrapI _ (by omega)
                      simp only [Act.put, List.setIfInBounds_toArray, List.set_cons_zero, List.set_cons_succ]
                      refine takeD 15 148 (.int .u64 (y1 : Int)) (by exact rfl) rfl (by as_aux_lemma => kernel_rfl) (by as_aux_lemma => kernel_rfl) (by as_aux_lemma => kernel_rfl) (fun _ _ _ h => h) (Or.inl ⟨by rfl, ?_⟩) (by assumption) ?_
                      · intro wq hS
                        go_simp
                      simp only [Act.put, List.setIfInBounds_toArray, List.set_cons_zero, List.set_cons_succ]
                      refine takeD 16 149 (.int .u64 ((Z : Int) + (x0 : Int) + (V7 : Int) + (y1 : Int))) (by exact rfl) rfl (by as_aux_lemma => kernel_rfl) (by as_aux_lemma => kernel_rfl) (by as_aux_lemma => kernel_rfl) (fun _ _ _ h => h) (Or.inl ⟨by rfl, ?_⟩) (by assumption) ?_
                      · intro wq hS
                        go_simp
                        first | exact wrapU _ (by omega) | exact wrapI _ (by omega)
                      simp only [Act.put, List.setIfInBounds_toArray, List.set_cons_zero, List.set_cons_succ]
                      refine takeD 17 150 (.int .u64 (((Z : Int) + (x0 : Int) + (V7 : Int) + (y1 : Int)) % 4294967296)) (by exact rfl) rfl (by as_aux_lemma => kernel_rfl) (by as_aux_lemma => kernel_rfl) (by as_aux_lemma => kernel_rfl) (fun _ _ _ h => h) (Or.inl ⟨by rfl, ?_⟩) (by assumption) ?_
                      · intro wq hS
                        go_simp
                        exact Int.tmod_eq_emod_of_nonneg (by omega)
                      simp only [Act.put, List.setIfInBounds_toArray, List.set_cons_zero, List.set_cons_succ]
                      refine takeD 18 151 (.pointer (some ⟨W, kk, none⟩)) (by exact rfl) rfl (by as_aux_lemma => kernel_rfl) (by as_aux_lemma => kernel_rfl) (by as_aux_lemma => kernel_rfl) (fun _ _ _ h => h) (Or.inl ⟨by rfl, ?_⟩) (by assumption) ?_
                      · intro wq hS
                        go_simp
                      simp only [Act.put, List.setIfInBounds_toArray, List.set_cons_zero, List.set_cons_succ]
                      refine wpAnyH_ready (rs := [19]) (by as_aux_lemma => kernel_rfl) (by simp) ?_
                      refine AllReadyH.cons (by exact rfl) (fun K hK => ?_) AllReadyH.nil
                      go_simp
                      refine hK.out _ _ ⟨by show (World.setCell _ _ _).cell? _ = _; rw [cell_sc (by have := b16.out; omega)]; exact cZ, by show (World.setCell _ _ _).cell? _ = _; rw [cell_sc (by have := b16.out; have := b7.out; omega)]; exact cV⟩ (fun hHeld => ?_)
                      clear hK K
                      refine wpAnyH_done (by as_aux_lemma => kernel_rfl) ?_ _
                      refine NoPanic.normal ?_
                      go_wp2_with fail
                      skip
                      refine ⟨⟨_, _, _, _, _, _, _, _, _, _, _, _, _, _, _, _, _, _, _, _, _, _, _, _, _, _, _, _, _, _, _, _, _, _, _, _, _, _, _, _, _, _, _, _, _, _, _, _, _, _, _, _, _, _, ?_, rfl⟩, by simp [intOf]; omega⟩
                      refine ⟨k + 1, by omega, by rw [show (16 + ((k + 1 : Nat) : Int)) = 16 + (k : Int) + 1 by omega], ?_, Q7.out.2.upd (upd_setdrew W kk _)⟩
                      have V := Q7.out.1.set kk (.int .u64 (((Z : Int) + (x0 : Int) + (V7 : Int) + (y1 : Int)) % 4294967296))
                      have e : cq (sch FW (k + 1)) = (cq SK).set kk (.int .u64 (((Z : Int) + (x0 : Int) + (V7 : Int) + (y1 : Int)) % 4294967296)) := by
                        rw [show ((Z : Int) + (x0 : Int) + (V7 : Int) + (y1 : Int)) % 4294967296 = (((Z + x0 + V7 + y1) % 4294967296 : Nat) : Int) by omega, ← cq_set, ← HNW.out, HSK.out, b16.out]
                        rfl
                      rw [e]
                      exact V.drew
                · have hk' : k < 16 := by omega
                  have e1 : (0 : Int) ≤ (k : Int) := by omega
                  have e2 : (k : Int) < 16 := by omega
                  have e3 : (k : Int) < 64 := by omega
                  go_wp2_with fail
                  go_loopw [79] (fun jx wz => ∃ j : Nat, j ≤ 4 ∧ jx = .int .i64 j ∧ Hid (VA wz W (cq (fwj BK k j)) 41 ∧ Upd W w5 wz)) (fun jx _ => 4 - (intOf jx).toNat)
                  case atStart => exact ⟨0, by omega, rfl, by rw [fwj_0 BK k (by omega)]; exact Q.out.1, Q.out.2⟩
                  case round =>
                    obtain ⟨j, hj, rfl, Z⟩ := hrel
                    by_cases hj4 : j = 4
                    · subst hj4
                      go_wp2_with fail
                      refine ⟨⟨k + 1, by omega, by go_num, ?_, Z.out.2⟩, by simp [intOf]; omega⟩
                      rw [← fwj_4]
                      exact Z.out.1
                    · have hj' : j < 4 := by omega
                      have e4 : (0 : Int) ≤ (j : Int) := by omega
                      have e5 : (j : Int) < 4 := by omega
                      obtain ⟨X, hX⟩ : ∃ X, X = wdS BK k j := ⟨_, rfl⟩
                      obtain ⟨A, hA⟩ : ∃ A, A = 64 * b + 4 * k + j := ⟨_, rfl⟩
                      obtain ⟨Y, hY⟩ : ∃ Y, Y = TX.getD A 0 := ⟨_, rfl⟩
                      have hYb : Y < 256 := by rw [hY]; exact by_getD BYT.out A
                      have hXb : X < 16777216 := by
                        have h1 := wdS_lt BYB.out k j
                        rw [← hX] at h1
                        exact Nat.lt_of_lt_of_le h1 (Nat.pow_le_pow_right (n := 256) (by omega) (show j ≤ 3 by omega))
                      have HNX : Hid (X * 256 + Y = wdS BK k (j + 1)) := by
                        show _ = wdS BK k j * 256 + BK.getD (4 * k + j) 0
                        rw [← hX, HBK.out, blk_get TX b _ (by omega), hY, hA, Nat.add_assoc]
                      have cx := Z.out.1.cell k (cq_get (fwj BK k j) k (by rw [fwj_len]; omega))
                      rw [fwj_get BK k j (by omega), ← hX] at cx
                      have cy := ((R4.out.upd' Z.out.2 (Nat.ne_of_lt hgW.out))).cell HTL.out A (by omega)
                      rw [show bt TX A = (Y : Int) by rw [hY]; rfl] at cy
                      have fx := Z.out.1.free k
                      have a1 : Hid ((A : Int) = 64 * (b : Int) + 4 * (k : Int) + (j : Int)) := by show (A : Int) = _; omega
                      have a0 : (0 : Int) ≤ (A : Int) := by omega
                      have a2 : (A : Int) < 64 * (M : Int) := by omega
                      have HV := (show Hid _ from Z.out.1)
                      have HUU := (show Hid _ from Z.out.2)
                      clear Z hX hY hA
                      go_upto_region 24 with fail
                      refine wp_region_noPanic ?_
                      refine wp_region_held_drew (S := fun w' => w'.cell? ⟨g, A, none⟩ = some (.int .u8 (Y : Int))) (by as_aux_lemma => kernel_rfl) cy (fun hHeld => ?_)
                      refine takeD 0 82 (.slice (some ⟨W, 0, none⟩) 64 64) (by exact rfl) rfl (by as_aux_lemma => kernel_rfl) (by as_aux_lemma => kernel_rfl) (by as_aux_lemma => kernel_rfl) (fun _ _ _ h => h) (Or.inl ⟨by rfl, ?_⟩) (by assumption) ?_
                      · intro wq hS
                        go_simp
                      simp only [Act.put, List.setIfInBounds_toArray, List.set_cons_zero, List.set_cons_succ]
                      refine takeD 1 83 (.int .i64 (k : Int)) (by exact rfl) rfl (by as_aux_lemma => kernel_rfl) (by as_aux_lemma => kernel_rfl) (by as_aux_lemma => kernel_rfl) (fun _ _ _ h => h) (Or.inl ⟨by rfl, ?_⟩) (by assumption) ?_
                      · intro wq hS
                        go_simp
                      simp only [Act.put, List.setIfInBounds_toArray, List.set_cons_zero, List.set_cons_succ]
                      refine takeD 2 84 (.slice (some ⟨W, 0, none⟩) 64 64) (by exact rfl) rfl (by as_aux_lemma => kernel_rfl) (by as_aux_lemma => kernel_rfl) (by as_aux_lemma => kernel_rfl) (fun _ _ _ h => h) (Or.inl ⟨by rfl, ?_⟩) (by assumption) ?_
                      · intro wq hS
                        go_simp
                      simp only [Act.put, List.setIfInBounds_toArray, List.set_cons_zero, List.set_cons_succ]
                      refine takeD 3 85 (.int .i64 (k : Int)) (by exact rfl) rfl (by as_aux_lemma => kernel_rfl) (by as_aux_lemma => kernel_rfl) (by as_aux_lemma => kernel_rfl) (fun _ _ _ h => h) (Or.inl ⟨by rfl, ?_⟩) (by assumption) ?_
                      · intro wq hS
                        go_simp
                      simp only [Act.put, List.setIfInBounds_toArray, List.set_cons_zero, List.set_cons_succ]
                      refine takeD 4 86 (.pointer (some ⟨W, k, none⟩)) (by exact rfl) rfl (by as_aux_lemma => kernel_rfl) (by as_aux_lemma => kernel_rfl) (by as_aux_lemma => kernel_rfl) (fun _ _ _ h => h) (Or.inl ⟨by rfl, ?_⟩) (by assumption) ?_
                      · intro wq hS
                        go_simp
                      simp only [Act.put, List.setIfInBounds_toArray, List.set_cons_zero, List.set_cons_succ]
                      refine takeD 7 89 (.slice (some ⟨g, 0, none⟩) (64 * M) cap) (by exact rfl) rfl (by as_aux_lemma => kernel_rfl) (by as_aux_lemma => kernel_rfl) (by as_aux_lemma => kernel_rfl) (fun _ _ _ h => h) (Or.inl ⟨by rfl, ?_⟩) (by assumption) ?_
                      · intro wq hS
                        go_simp
                      simp only [Act.put, List.setIfInBounds_toArray, List.set_cons_zero, List.set_cons_succ]
                      refine takeD 8 90 (.int .i64 (64 * (b : Int))) (by exact rfl) rfl (by as_aux_lemma => kernel_rfl) (by as_aux_lemma => kernel_rfl) (by as_aux_lemma => kernel_rfl) (fun _ _ _ h => h) (Or.inl ⟨by rfl, ?_⟩) (by assumption) ?_
                      · intro wq hS
                        go_simp
                      simp only [Act.put, List.setIfInBounds_toArray, List.set_cons_zero, List.set_cons_succ]
                      refine takeD 9 91 (.int .i64 (k : Int)) (by exact rfl) rfl (by as_aux_lemma => kernel_rfl) (by as_aux_lemma => kernel_rfl) (by as_aux_lemma => kernel_rfl) (fun _ _ _ h => h) (Or.inl ⟨by rfl, ?_⟩) (by assumption) ?_
                      · intro wq hS
                        go_simp
                      simp only [Act.put, List.setIfInBounds_toArray, List.set_cons_zero, List.set_cons_succ]
                      refine takeD 10 92 (.int .i64 (4 * (k : Int))) (by exact rfl) rfl (by as_aux_lemma => kernel_rfl) (by as_aux_lemma => kernel_rfl) (by as_aux_lemma => kernel_rfl) (fun _ _ _ h => h) (Or.inl ⟨by rfl, ?_⟩) (by assumption) ?_
                      · intro wq hS
                        go_simp
                        first | exact wrapU _ (by omega) | exact wrapI _ (by omega)
                      simp only [Act.put, List.setIfInBounds_toArray, List.set_cons_zero, List.set_cons_succ]
                      refine takeD 11 93 (.int .i64 (64 * (b : Int) + 4 * (k : Int))) (by exact rfl) rfl (by as_aux_lemma => kernel_rfl) (by as_aux_lemma => kernel_rfl) (by as_aux_lemma => kernel_rfl) (fun _ _ _ h => h) (Or.inl ⟨by rfl, ?_⟩) (by assumption) ?_
                      · intro wq hS
                        go_simp
                        first | exact wrapU _ (by omega) | exact wrapI _ (by omega)
                      simp only [Act.put, List.setIfInBounds_toArray, List.set_cons_zero, List.set_cons_succ]
                      refine takeD 12 94 (.int .i64 (j : Int)) (by exact rfl) rfl (by as_aux_lemma => kernel_rfl) (by as_aux_lemma => kernel_rfl) (by as_aux_lemma => kernel_rfl) (fun _ _ _ h => h) (Or.inl ⟨by rfl, ?_⟩) (by assumption) ?_
                      · intro wq hS
                        go_simp
                      simp only [Act.put, List.setIfInBounds_toArray, List.set_cons_zero, List.set_cons_succ]
                      refine takeD 13 95 (.int .i64 (A : Int)) (by exact rfl) rfl (by as_aux_lemma => kernel_rfl) (by as_aux_lemma => kernel_rfl) (by as_aux_lemma => kernel_rfl) (fun _ _ _ h => h) (Or.inl ⟨by rfl, ?_⟩) (by assumption) ?_
                      · intro wq hS
                        rw [a1.out]
                        go_simp
                        first | exact wrapU _ (by omega) | exact wrapI _ (by omega)
                      simp only [Act.put, List.setIfInBounds_toArray, List.set_cons_zero, List.set_cons_succ]
                      refine takeD 14 96 (.pointer (some ⟨g, A, none⟩)) (by exact rfl) rfl (by as_aux_lemma => kernel_rfl) (by as_aux_lemma => kernel_rfl) (by as_aux_lemma => kernel_rfl) (fun _ _ _ h => h) (Or.inl ⟨by rfl, ?_⟩) (by assumption) ?_
                      · intro wq hS
                        go_simp
                      simp only [Act.put, List.setIfInBounds_toArray, List.set_cons_zero, List.set_cons_succ]
                      refine takeD 15 97 (.int .u8 (Y : Int)) (by exact rfl) rfl (by as_aux_lemma => kernel_rfl) (by as_aux_lemma => kernel_rfl) (by as_aux_lemma => kernel_rfl) (fun _ _ _ h => h) (Or.inl ⟨by rfl, ?_⟩) (by assumption) ?_
                      · intro wq hS
                        go_simp
                      simp only [Act.put, List.setIfInBounds_toArray, List.set_cons_zero, List.set_cons_succ]
                      refine takeD 16 98 (.int .u64 (Y : Int)) (by exact rfl) rfl (by as_aux_lemma => kernel_rfl) (by as_aux_lemma => kernel_rfl) (by as_aux_lemma => kernel_rfl) (fun _ _ _ h => h) (Or.inl ⟨by rfl, ?_⟩) (by assumption) ?_
                      · intro wq hS
                        go_simp
                        first | exact wrapU _ (by omega) | exact wrapI _ (by omega)
                      simp only [Act.put, List.setIfInBounds_toArray, List.set_cons_zero, List.set_cons_succ]
                      refine wpAnyH_ready (rs := [5]) (by as_aux_lemma => kernel_rfl) (by simp) ?_
                      refine AllReadyH.cons (by exact rfl) (fun K hK => ?_) AllReadyH.nil
                      go_simp
                      refine hK.out _ _ cy (fun hHeld => ?_)
                      clear hK K
                      refine takeD 6 88 (.int .u64 ((X : Int) * 256)) (by exact rfl) rfl (by as_aux_lemma => kernel_rfl) (by as_aux_lemma => kernel_rfl) (by as_aux_lemma => kernel_rfl) (fun _ _ _ h => h) (Or.inl ⟨by rfl, ?_⟩) (by assumption) ?_
                      · intro wq hS
                        go_simp
                        first | exact wrapU _ (by omega) | exact wrapI _ (by omega)
                      simp only [Act.put, List.setIfInBounds_toArray, List.set_cons_zero, List.set_cons_succ]
                      refine takeD 17 99 (.int .u64 ((X : Int) * 256 + (Y : Int))) (by exact rfl) rfl (by as_aux_lemma => kernel_rfl) (by as_aux_lemma => kernel_rfl) (by as_aux_lemma => kernel_rfl) (fun _ _ _ h => h) (Or.inl ⟨by rfl, ?_⟩) (by assumption) ?_
                      · intro wq hS
                        go_simp
                        first | exact wrapU _ (by omega) | exact wrapI _ (by omega)
                      simp only [Act.put, List.setIfInBounds_toArray, List.set_cons_zero, List.set_cons_succ]
                      refine takeD 18 100 (.pointer (some ⟨W, k, none⟩)) (by exact rfl) rfl (by as_aux_lemma => kernel_rfl) (by as_aux_lemma => kernel_rfl) (by as_aux_lemma => kernel_rfl) (fun _ _ _ h => h) (Or.inl ⟨by rfl, ?_⟩) (by assumption) ?_
                      · intro wq hS
                        go_simp
                      simp only [Act.put, List.setIfInBounds_toArray, List.set_cons_zero, List.set_cons_succ]
                      refine wpAnyH_ready (rs := [19]) (by as_aux_lemma => kernel_rfl) (by simp) ?_
                      refine AllReadyH.cons (by exact rfl) (fun K hK => ?_) AllReadyH.nil
                      go_simp
                      refine hK.out _ _ (by show (World.setCell _ _ _).cell? _ = _; rw [cell_ne (Nat.ne_of_lt hgW.out)]; exact cy) (fun hHeld => ?_)
                      clear hK K
                      refine wpAnyH_done (by as_aux_lemma => kernel_rfl) ?_ _
                      refine NoPanic.normal ?_
                      go_wp2_with fail
                      refine ⟨⟨j + 1, by omega, by go_num, ?_, ?_⟩, by simp [intOf]; omega⟩
                      · have V := HV.out.set k (.int .u64 ((X : Int) * 256 + (Y : Int)))
                        rw [show ((X : Int) * 256 + (Y : Int)) = ((X * 256 + Y : Nat) : Int) by omega, ← cq_set, fwj_set BK k j _ HNX.out] at V
                        exact V.drew
                      · exact HUU.out.trans (upd_setdrew W k _)
        · obtain ⟨m, rfl⟩ : ∃ m, j = m + 1 := ⟨j - 1, by omega⟩
          obtain ⟨q, hq⟩ : ∃ q, q = 8 - (m + 1) := ⟨_, rfl⟩
          have HQ := (show Hid _ from hq)
          rw [← hq] at K ⊢
          rw [show ((m + 1 : Nat) : Int) - 1 = (m : Int) by omega]
          clear hq hj0
          have V9 := (show Hid _ from K.out.1)
          have U9 := (show Hid _ from K.out.2)
          clear K
          have hm8 : (m : Int) < 8 := by omega
          have hm0 : (0 : Int) ≤ (m : Int) := by omega
          obtain ⟨N, hN⟩ : ∃ N, N = 8 * L / 256 ^ q := ⟨_, rfl⟩
          have HN := (show Hid _ from hN)
          rw [← hN]
          have hNb : N ≤ 1125899906841024 := by rw [hN]; exact Nat.le_trans (Nat.div_le_self _ _) (by omega)
          clear hN
          have c9 := V9.out.cell m (cl_get _ m (by rw [tl8_len]; omega))
          have f9 := V9.out.free m
          go_wp2_with fail
          refine ⟨⟨m, by omega, ?_, rfl, ?_, U9.out.trans (upd_set _ _ _ _)⟩, by simp [intOf]⟩
          · rw [show 8 - m = q + 1 by have := HQ.out; omega, ← div256, ← HN.out, Int.natCast_ediv]
            rfl
          · have V := V9.out.set m (.int .u8 ((N : Int) % 256))
            have e : cl (tl8 (8 * L) (8 - m)) = (cl (tl8 (8 * L) q)).set m (.int .u8 ((N : Int) % 256)) := by
              rw [show 8 - m = q + 1 by have := HQ.out; omega]
              show cl ((tl8 (8 * L) q).set (7 - q) (8 * L / 256 ^ q % 256)) = _
              rw [cl_set, ← HN.out, show 7 - q = m by have := HQ.out; omega, Int.natCast_emod]
              rfl
            rw [e]
            exact V
    · have hne := hnz.2 k (by omega)
      have hd : (((L : Int) + 1 + (k : Int)) % 64 != 56) = true := by
        simp
        omega
      have O7 := (show Hid _ from K.out.1)
      have B7 := (show Hid _ from K.out.2)
      have l7 := B7.out.size
      have hz : k ≤ 128 := by
        have : nz bs ≤ 128 := by
          unfold nz
          rcases tailZ_eq bs with ⟨h1, h2⟩ | ⟨h1, h2⟩ <;> omega
        omega
      have HM := (show Hid _ from hml)
      clear K hnz hml hne
      go_wp2_with (at_builtin; refine appB1 rfl _ _ rfl w4.heap.size (marked bs k) _ _ 0 (by rfl) (by rfl) rfl (by omega) O7.out l7 (by have := HLN.out; have := HL.out; have := HM.out; omega) ?_; intro v3 w8 o8 b8)
      have o9 : OwnB w8 w4.heap.size v3 (marked bs (k + 1)) := by
        have e : marked bs k ++ [0] = marked bs (k + 1) := by unfold marked; rw [List.append_assoc, List.cons_append, List.replicate_succ']
        rw [← e]
        exact o8
      obtain ⟨ta, tc, rfl⟩ : ∃ a c, v3 = .slice a (L + 1 + (k + 1)) c := by
        obtain ⟨_, a, c, e, _⟩ := o9.bs
        exact ⟨a, c, by rw [e, marked_len, HL.out]⟩
      refine ⟨⟨k + 1, by omega, o9, B7.out.trans b8⟩, ?_⟩
      show L + 200 - (L + 1 + (k + 1)) < L + 200 - (L + 1 + k)
      omega
end Go.Proofs.YtbgmepepcdpkfaaDoor
