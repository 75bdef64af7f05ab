/- The walk of PackStream. -/
import Derived.Test.YtnchmflbhcdngaaAo
namespace Go.Proofs.Ytnchmflbhcdngaa
open Go.RowKit
set_option linter.unusedVariables false

theorem stream_cut {q : Nat} {qs R : List Nat} (h : qs.length = q) : ((enc q ++ (qs ++ R)).drop (enc q).length).take q = qs := by
  rw [List.drop_left, ← h, List.take_left]
set_option maxHeartbeats 8000000 in
set_option maxRecDepth 100000 in
theorem stream_walk (v u : Value) (zs0 : List Int) (ts0 : List (List Nat)) (w : World) (h : Is w v zs0) (hu : Ts w u ts0) :
    Calls Try.prog 7 #[v, u] w fun e w' => e = .returned (.bool true) ∧ Below w.heap.size w w' := by
  have I := (show Hid _ from h)
  have T := (show Hid _ from hu)
  obtain ⟨hnum, a, c, rfl, h1, h2, h3⟩ := h
  obtain ⟨a2, c2, rfl, h4, h5, h6⟩ := hu
  clear hnum h3 h6
  generalize zs0.length = N0 at *
  generalize ts0.length = M0 at *
  go_enter Try.func7, Try.ntmps7
  go_wp2_with fail
  refine (awake_ok _).mono ?_
  rintro e w1 ⟨rfl, hb1⟩
  replace I := (show Hid _ from I.out.step hb1)
  replace T := (show Hid _ from T.out.step hb1)
  have G := (show Hid _ from hb1)
  clear hb1
  go_upto_region 3 with fail
  go_cut [0, 1] (fun s0 s1 wx => ∃ zs ts, Is wx s0 zs ∧ Ts wx s1 ts ∧ zs.length ≤ 50 ∧ ts.length ≤ 50 ∧ Below w.heap.size w wx)
  case first =>
    by_cases hN : N0 ≤ 50
    · by_cases hM : M0 ≤ 50
      · have A1 := (show Hid _ from I.out.cut N0 (by omega))
        have A2 := (show Hid _ from T.out.cut M0 (by omega))
        clear I T
        go_wp2_with fail
        go_quiet (fail)
        have B1 := (show Hid _ from A1.out.step (bel_drewN (Below.refl _ _) nq))
        have B2 := (show Hid _ from A2.out.step (bel_drewN (Below.refl _ _) nq))
        have B3 := (show Hid _ from bel_drewN G.out nq)
        clear A1 A2 G
        generalize w1.drewN nq = wq at *
        go_wp2_with fail
        go_meet
        exact ⟨_, _, B1.out, B2.out, by rw [List.length_take]; omega, by rw [List.length_take]; omega, B3.out⟩
      · have A1 := (show Hid _ from I.out.cut N0 (by omega))
        have A2 := (show Hid _ from T.out.cut 50 (by omega))
        clear I T
        go_wp2_with fail
        go_quiet (fail)
        have B1 := (show Hid _ from A1.out.step (bel_drewN (Below.refl _ _) nq))
        have B2 := (show Hid _ from A2.out.step (bel_drewN (Below.refl _ _) nq))
        have B3 := (show Hid _ from bel_drewN G.out nq)
        clear A1 A2 G
        generalize w1.drewN nq = wq at *
        go_wp2_with fail
        go_meet
        exact ⟨_, _, B1.out, B2.out, by rw [List.length_take]; omega, by rw [List.length_take]; omega, B3.out⟩
    · by_cases hM : M0 ≤ 50
      · have A1 := (show Hid _ from I.out.cut 50 (by omega))
        have A2 := (show Hid _ from T.out.cut M0 (by omega))
        clear I T
        go_wp2_with fail
        go_quiet (fail)
        have B1 := (show Hid _ from A1.out.step (bel_drewN (Below.refl _ _) nq))
        have B2 := (show Hid _ from A2.out.step (bel_drewN (Below.refl _ _) nq))
        have B3 := (show Hid _ from bel_drewN G.out nq)
        clear A1 A2 G
        generalize w1.drewN nq = wq at *
        go_wp2_with fail
        go_meet
        exact ⟨_, _, B1.out, B2.out, by rw [List.length_take]; omega, by rw [List.length_take]; omega, B3.out⟩
      · have A1 := (show Hid _ from I.out.cut 50 (by omega))
        have A2 := (show Hid _ from T.out.cut 50 (by omega))
        clear I T
        go_wp2_with fail
        go_quiet (fail)
        have B1 := (show Hid _ from A1.out.step (bel_drewN (Below.refl _ _) nq))
        have B2 := (show Hid _ from A2.out.step (bel_drewN (Below.refl _ _) nq))
        have B3 := (show Hid _ from bel_drewN G.out nq)
        clear A1 A2 G
        generalize w1.drewN nq = wq at *
        go_wp2_with fail
        go_meet
        exact ⟨_, _, B1.out, B2.out, by rw [List.length_take]; omega, by rw [List.length_take]; omega, B3.out⟩
  case rest =>
    clear I T G h1 h2 h4 h5
    obtain ⟨zs, ts, i1, t1, hN50, hM50, g1⟩ := hcut
    have I := (show Hid _ from i1)
    have T := (show Hid _ from t1)
    have G := (show Hid _ from g1)
    obtain ⟨hnum, a, c, rfl, h1, h2, h3⟩ := i1
    obtain ⟨a2, c2, rfl, h4, h5, h6⟩ := t1
    have HNUM := (show Hid _ from hnum)
    clear hnum h3 h6 g1
    obtain ⟨N, eN⟩ : ∃ N, N = zs.length := ⟨_, rfl⟩
    obtain ⟨M, eM⟩ : ∃ M, M = ts.length := ⟨_, rfl⟩
    have HN : Hid (N = zs.length) := eN
    have HM : Hid (M = ts.length) := eM
    rw [← eN] at I h1 hN50 ⊢
    rw [← eM] at T h4 hM50 ⊢
    clear eN eM
    go_wp2_with fail
    go_loopw [5, 29] (fun s5 s29 wr => ∃ i : Nat, i ≤ 50 ∧ s29 = .int .i64 i ∧ Bs wr s5 (build zs ts i) ∧ Below w.heap.size w wr ∧ Is wr (.slice a N c) zs ∧ Ts wr (.slice a2 M c2) ts) (fun _ i _ => 50 - (intOf i).toNat)
    case atStart => exact ⟨0, by omega, rfl, bs_nil _, G.out, I.out, T.out⟩
    case round =>
      clear I T G
      obtain ⟨i, hi, rfl, p1, g1, i1, t1⟩ := hrel
      have P := (show Hid _ from p1)
      have I := (show Hid _ from i1)
      have T := (show Hid _ from t1)
      have G := (show Hid _ from g1)
      have BL : Hid ((build zs ts i).length ≤ 16500) := by have := build_len HNUM.out ts i; show _ ≤ _; omega
      clear p1 i1 t1 g1
      by_cases hi50 : i = 50
      · subst hi50
        have PR := P
        rw [← rest_all] at PR
        clear P BL
        go_wp2_with fail
        rw [show ((50 : Nat) : Int) = (50 : Int) from rfl]
        go_loopw [5, 66] (fun s5 s66 wr => ∃ j : Nat, j ≤ 50 ∧ s66 = .int .i64 j ∧ Bs wr s5 (rest zs ts (50 - j)) ∧ Below w.heap.size w wr ∧ Is wr (.slice a N c) zs ∧ Ts wr (.slice a2 M c2) ts) (fun _ j _ => 50 - (intOf j).toNat)
        case atStart => exact ⟨0, by omega, rfl, PR.out, G.out, I.out, T.out⟩
        case round =>
          clear I T G PR
          obtain ⟨j, hj, rfl, p1, g1, i1, t1⟩ := hrel
          have P := (show Hid _ from p1)
          have I := (show Hid _ from i1)
          have T := (show Hid _ from t1)
          have G := (show Hid _ from g1)
          clear p1 i1 t1 g1
          by_cases hj50 : j = 50
          · subst hj50
            obtain ⟨pa, pc, rfl, p1, p2, p3, p4⟩ := P.out.form
            clear p3 p4
            rw [show (rest zs ts (50 - 50)).length = 0 from rfl] at p1 ⊢
            go_wp2_with fail
            go_ret
            exact ⟨rfl, G.out⟩
          · have hj' : j < 50 := by omega
            rw [rest_at zs ts j hj'] at P
            go_upto_if 72 with fail
            go_cut [5] (fun s5 wx => Bs wx s5 (titem ts j ++ rest zs ts (50 - (j + 1))) ∧ Below w.heap.size w wx ∧ Is wx (.slice a N c) zs ∧ Ts wx (.slice a2 M c2) ts)
            case first =>
              by_cases hjN : j < N
              · obtain ⟨z, hz⟩ : ∃ z, z = zs.getD j 0 := ⟨_, rfl⟩
                have HI : Hid (nitem zs j = enc (us z) ++ enc (zz z)) := by show _ = _; unfold nitem; rw [if_pos (by have := HN.out; omega), ← hz]
                obtain ⟨b, off, rfl, hb, hcell, hzb⟩ := I.out.here j hjN
                rw [← hz] at hcell hzb
                have hu64 := us_eq z
                have hu64b := us_lt z
                have hzz := zz_lt hzb.1 hzb.2
                rw [HI.out, List.append_assoc] at P
                obtain ⟨R, eR⟩ : ∃ R, R = titem ts j ++ rest zs ts (50 - (j + 1)) := ⟨_, rfl⟩
                have HR : Hid (R = titem ts j ++ rest zs ts (50 - (j + 1))) := eR
                rw [← eR] at P
                clear eR hz
                obtain ⟨pa, pc, rfl, p1, p2, p3, p4⟩ := P.out.form
                clear p3 p4
                obtain ⟨k1, ek1⟩ : ∃ k, k = (enc (us z)).length := ⟨_, rfl⟩
                obtain ⟨k2, ek2⟩ : ∃ k, k = (enc (zz z)).length := ⟨_, rfl⟩
                have K1 : Hid (k1 = (enc (us z)).length) := ek1
                have K2 : Hid (k2 = (enc (zz z)).length) := ek2
                have f1 : 1 ≤ k1 ∧ k1 ≤ 10 := by have := enc_pos (us z); have := enc_len hu64b; omega
                have f2 : 1 ≤ k2 ∧ k2 ≤ 10 := by have := enc_pos (zz z); have := enc_len hzz; omega
                obtain ⟨pl, epl⟩ : ∃ l, l = (enc (us z) ++ (enc (zz z) ++ R)).length := ⟨_, rfl⟩
                have f3 : k1 + k2 ≤ pl := by rw [epl, List.length_append, List.length_append]; omega
                rw [← epl] at P p1 ⊢
                clear epl ek1 ek2
                have d1 : (0 : Int) ≤ (j : Int) := by omega
                have d2 : (j : Int) < (N : Int) := by omega
                have g1 : ¬ pc = k1 := by omega
                have d3 : decide (pl < k1) = false := decide_eq_false (by omega)
                have d4 : decide (pl < k1 + k2) = false := decide_eq_false (by omega)
                go_wp2_with fail
                refine (readu_yes _ _ (us z) _ P.out hu64b (List.prefix_append _ _)).mono ?_
                rintro e wb ⟨rfl, rfl⟩
                rw [← K1.out]
                go_wp2_with fail
                refine (readi_yes _ _ (zz z) _ ((P.out.past K1.out.symm).2 g1) hzz (List.prefix_append _ _)).mono ?_
                rintro e wc ⟨rfl, rfl⟩
                rw [← K2.out, uz_zz]
                have F := (show Hid _ from (Bs.past (xs := enc (us z) ++ enc (zz z)) (ys := R) (k := k1 + k2) (by rw [List.append_assoc]; exact P.out) (by rw [List.length_append, ← K1.out, ← K2.out])))
                clear P
                go_wp2_with fail
                · have hck : pc = k1 + k2 := by assumption
                  go_meet
                  exact ⟨by rw [← HR.out]; exact F.out.1 hck, G.out, I.out, T.out⟩
                · have hck : ¬ pc = k1 + k2 := by assumption
                  go_meet
                  exact ⟨by rw [← HR.out]; exact F.out.2 hck, G.out, I.out, T.out⟩
              · have HI : Hid (nitem zs j = []) := by show _ = _; unfold nitem; rw [if_neg (by have := HN.out; omega)]
                have hd : decide (j < N) = false := decide_eq_false hjN
                rw [HI.out, List.nil_append] at P
                go_wp2_with fail
                go_meet
                exact ⟨P.out, G.out, I.out, T.out⟩
            case rest =>
              clear I T G P
              obtain ⟨p1, g1, i1, t1⟩ := hcut
              have P := (show Hid _ from p1)
              have I := (show Hid _ from i1)
              have T := (show Hid _ from t1)
              have G := (show Hid _ from g1)
              clear p1 i1 t1 g1
              by_cases hjM : j < M
              · obtain ⟨b, off, t, rfl, hb, hcell, ht⟩ := T.out.here j hjM
                obtain ⟨tt, htt⟩ : ∃ tt, tt = ts.getD j [] := ⟨_, rfl⟩
                rw [← htt] at ht
                have HI : Hid (titem ts j = enc (tt.take 300).length ++ tt.take 300) := by show _ = _; unfold titem; rw [if_pos (by have := HM.out; omega), ← htt]
                have d1 : (0 : Int) ≤ (j : Int) := by omega
                have d2 : (j : Int) < (M : Int) := by omega
                obtain ⟨ta, tc, rfl, t1, t2, t3, t4⟩ := ht.form
                clear t3 t4 htt
                have HT := (show Hid _ from ht)
                clear ht
                obtain ⟨tl, etl⟩ : ∃ tl, tl = tt.length := ⟨_, rfl⟩
                have HTL : Hid (tl = tt.length) := etl
                rw [← etl] at HT t1 hcell
                clear etl
                by_cases h300 : tl ≤ 300
                · have e300 : Hid (tt.take 300 = tt) := List.take_of_length_le (by have := HTL.out; omega)
                  rw [e300.out] at HI
                  have H3 := HT
                  have d3 : ((300 : Int) < (tl : Int)) = False := eq_false (by omega)
                  have d5 : (tl : Int) ≤ (tc : Int) := by omega
                  have d6 : (0 : Int) ≤ (tl : Int) := by omega
                  obtain ⟨qs, eqs⟩ : ∃ qs, qs = tt := ⟨_, rfl⟩
                  have hq : qs.length = tl := by rw [eqs]; exact HTL.out.symm
                  rw [← eqs] at HI H3
                  have HQ : Hid (qs.length = tl) := hq
                  rw [hq] at HI
                  clear hq eqs
                  rw [HI.out, List.append_assoc] at P
                  obtain ⟨R, eR⟩ : ∃ R, R = rest zs ts (50 - (j + 1)) := ⟨_, rfl⟩
                  have HR : Hid (R = rest zs ts (50 - (j + 1))) := eR
                  rw [← eR] at P
                  clear eR
                  obtain ⟨pa, pc, rfl, p1, p2, p3, p4⟩ := P.out.form
                  clear p3 p4
                  obtain ⟨k1, ek1⟩ : ∃ k, k = (enc tl).length := ⟨_, rfl⟩
                  have K1 : Hid (k1 = (enc tl).length) := ek1
                  have f1 : 1 ≤ k1 ∧ k1 ≤ 10 := by have := enc_pos tl; have := enc_len (n := tl) (by omega); omega
                  obtain ⟨pl, epl⟩ : ∃ l, l = (enc tl ++ (qs ++ R)).length := ⟨_, rfl⟩
                  have HPL : Hid (pl = (enc tl ++ (qs ++ R)).length) := epl
                  have f3 : k1 + tl ≤ pl := by rw [epl, List.length_append, List.length_append, HQ.out]; omega
                  rw [← epl] at P p1 ⊢
                  clear epl ek1
                  go_wp2_with fail
                  refine (readb_yes _ _ tl 300 _ P.out (List.prefix_append _ _) (by omega) (by have := HPL.out; have := K1.out; omega)).mono ?_
                  rintro e wb ⟨⟨y, rfl, ho⟩, hb2⟩
                  rw [stream_cut HQ.out] at ho
                  rw [← K1.out]
                  replace P := (show Hid _ from P.out.step hb2)
                  replace H3 := (show Hid _ from H3.out.step hb2)
                  replace I := (show Hid _ from I.out.step hb2)
                  replace T := (show Hid _ from T.out.step hb2)
                  replace G := (show Hid _ from G.out.trans (hb2.mono G.out.size))
                  have hcell := (hb2.cell (p := ⟨b, off + j, none⟩) hb).trans hcell
                  have hb := Nat.lt_of_lt_of_le hb hb2.size
                  have Y := (show Hid _ from ho.bs)
                  clear ho hb2 HT
                  obtain ⟨kk, ekk⟩ : ∃ kk, kk = k1 + tl := ⟨_, rfl⟩
                  have KK : Hid (kk = k1 + tl) := ekk
                  have g3 : kk ≤ pl := by omega
                  have g4 : kk ≤ pc := by omega
                  have d7 : decide (pl < kk) = false := decide_eq_false (by omega)
                  have d8 : (0 : Int) ≤ (kk : Int) := by omega
                  have d9 : (kk : Int) ≤ 400 := by omega
                  rw [← ekk]
                  clear ekk
                  go_wp2_with fail
                  go_region_held3 (fun w' => w'.cell? ⟨b, off + j, none⟩ = some (.slice ta tl tc))
                    (first | exact hcell | exact (hb4.cell (p := ⟨b, off + j, none⟩) hb).trans hcell)
                    (first | (go_at_call 13; refine (same_ok _ _ qs qs _ Y.out.drew H3.out.drew).mono ?_; rintro e w4 ⟨rfl, hb4⟩; rw [show decide (qs = qs) = true by simp]))
                  have K := bel_of_drew hb4
                  have F := (show Hid _ from Bs.past (xs := enc tl ++ qs) (ys := R) (k := kk) (by rw [List.append_assoc]; exact P.out.step K) (by rw [List.length_append, HQ.out, ← K1.out]; exact KK.out.symm))
                  have I' := (show Hid _ from I.out.step K)
                  have T' := (show Hid _ from T.out.step K)
                  have G' := (show Hid _ from G.out.trans (K.mono G.out.size))
                  clear I T G P hb4 hcell K hb H3 Y
                  by_cases hck : pc = kk
                  · go_upto_region 29 with fail
                    have X := F.out.1 hck
                    clear F
                    generalize Value.slice pa (pl - kk) 0 = x5 at *
                    have HX := (show Hid _ from X)
                    clear X
                    go_wp2_with fail
                    exact ⟨⟨j + 1, by omega, by go_num, by rw [← HR.out]; exact HX.out, G'.out, I'.out, T'.out⟩, by simp [intOf]; omega⟩
                  · go_upto_region 29 with fail
                    have X := F.out.2 hck
                    clear F
                    generalize Value.slice (Option.map (fun x => x.add kk) pa) (pl - kk) (pc - kk) = x5 at *
                    have HX := (show Hid _ from X)
                    clear X
                    go_wp2_with fail
                    exact ⟨⟨j + 1, by omega, by go_num, by rw [← HR.out]; exact HX.out, G'.out, I'.out, T'.out⟩, by simp [intOf]; omega⟩
                · have H3 := (show Hid _ from HT.out.cut 300 (by have := HTL.out; omega))
                  have d3 : ((300 : Int) < (tl : Int)) = True := eq_true (by omega)
                  have d5 : (300 : Int) ≤ (tc : Int) := by omega
                  obtain ⟨qs, eqs⟩ : ∃ qs, qs = tt.take 300 := ⟨_, rfl⟩
                  have hq : qs.length = 300 := by rw [eqs, List.length_take]; have := HTL.out; omega
                  rw [← eqs] at HI H3
                  have HQ : Hid (qs.length = 300) := hq
                  rw [hq] at HI
                  clear hq eqs
                  rw [HI.out, List.append_assoc] at P
                  obtain ⟨R, eR⟩ : ∃ R, R = rest zs ts (50 - (j + 1)) := ⟨_, rfl⟩
                  have HR : Hid (R = rest zs ts (50 - (j + 1))) := eR
                  rw [← eR] at P
                  clear eR
                  obtain ⟨pa, pc, rfl, p1, p2, p3, p4⟩ := P.out.form
                  clear p3 p4
                  obtain ⟨k1, ek1⟩ : ∃ k, k = (enc 300).length := ⟨_, rfl⟩
                  have K1 : Hid (k1 = (enc 300).length) := ek1
                  have f1 : 1 ≤ k1 ∧ k1 ≤ 10 := by have := enc_pos 300; have := enc_len (n := 300) (by omega); omega
                  obtain ⟨pl, epl⟩ : ∃ l, l = (enc 300 ++ (qs ++ R)).length := ⟨_, rfl⟩
                  have HPL : Hid (pl = (enc 300 ++ (qs ++ R)).length) := epl
                  have f3 : k1 + 300 ≤ pl := by rw [epl, List.length_append, List.length_append, HQ.out]; omega
                  rw [← epl] at P p1 ⊢
                  clear epl ek1
                  go_wp2_with fail
                  refine (readb_yes _ _ 300 300 _ P.out (List.prefix_append _ _) (by omega) (by have := HPL.out; have := K1.out; omega)).mono ?_
                  rintro e wb ⟨⟨y, rfl, ho⟩, hb2⟩
                  rw [stream_cut HQ.out] at ho
                  rw [← K1.out]
                  replace P := (show Hid _ from P.out.step hb2)
                  replace H3 := (show Hid _ from H3.out.step hb2)
                  replace I := (show Hid _ from I.out.step hb2)
                  replace T := (show Hid _ from T.out.step hb2)
                  replace G := (show Hid _ from G.out.trans (hb2.mono G.out.size))
                  have hcell := (hb2.cell (p := ⟨b, off + j, none⟩) hb).trans hcell
                  have hb := Nat.lt_of_lt_of_le hb hb2.size
                  have Y := (show Hid _ from ho.bs)
                  clear ho hb2 HT
                  obtain ⟨kk, ekk⟩ : ∃ kk, kk = k1 + 300 := ⟨_, rfl⟩
                  have KK : Hid (kk = k1 + 300) := ekk
                  have g3 : kk ≤ pl := by omega
                  have g4 : kk ≤ pc := by omega
                  have d7 : decide (pl < kk) = false := decide_eq_false (by omega)
                  have d8 : (0 : Int) ≤ (kk : Int) := by omega
                  have d9 : (kk : Int) ≤ 400 := by omega
                  rw [← ekk]
                  clear ekk
                  go_wp2_with fail
                  go_region_held3 (fun w' => w'.cell? ⟨b, off + j, none⟩ = some (.slice ta tl tc))
                    (first | exact hcell | exact (hb4.cell (p := ⟨b, off + j, none⟩) hb).trans hcell)
                    (first | (go_at_call 13; refine (same_ok _ _ qs qs _ Y.out.drew H3.out.drew).mono ?_; rintro e w4 ⟨rfl, hb4⟩; rw [show decide (qs = qs) = true by simp]))
                  have K := bel_of_drew hb4
                  have F := (show Hid _ from Bs.past (xs := enc 300 ++ qs) (ys := R) (k := kk) (by rw [List.append_assoc]; exact P.out.step K) (by rw [List.length_append, HQ.out, ← K1.out]; exact KK.out.symm))
                  have I' := (show Hid _ from I.out.step K)
                  have T' := (show Hid _ from T.out.step K)
                  have G' := (show Hid _ from G.out.trans (K.mono G.out.size))
                  clear I T G P hb4 hcell K hb H3 Y
                  by_cases hck : pc = kk
                  · go_upto_region 29 with fail
                    have X := F.out.1 hck
                    clear F
                    generalize Value.slice pa (pl - kk) 0 = x5 at *
                    have HX := (show Hid _ from X)
                    clear X
                    go_wp2_with fail
                    exact ⟨⟨j + 1, by omega, by go_num, by rw [← HR.out]; exact HX.out, G'.out, I'.out, T'.out⟩, by simp [intOf]; omega⟩
                  · go_upto_region 29 with fail
                    have X := F.out.2 hck
                    clear F
                    generalize Value.slice (Option.map (fun x => x.add kk) pa) (pl - kk) (pc - kk) = x5 at *
                    have HX := (show Hid _ from X)
                    clear X
                    go_wp2_with fail
                    exact ⟨⟨j + 1, by omega, by go_num, by rw [← HR.out]; exact HX.out, G'.out, I'.out, T'.out⟩, by simp [intOf]; omega⟩
              · have HI : Hid (titem ts j = []) := by show _ = _; unfold titem; rw [if_neg (by have := HM.out; omega)]
                have hd : decide (j < M) = false := decide_eq_false hjM
                rw [HI.out, List.nil_append] at P
                go_wp2_with fail
                exact ⟨⟨j + 1, by omega, by go_num, P.out, G.out, I.out, T.out⟩, by simp [intOf]; omega⟩
      · have hi' : i < 50 := by omega
        go_upto_if 35 with fail
        go_cut [5] (fun s5 wx => Bs wx s5 (build zs ts i ++ nitem zs i) ∧ Below w.heap.size w wx ∧ Is wx (.slice a N c) zs ∧ Ts wx (.slice a2 M c2) ts)
        case first =>
          by_cases hiN : i < N
          · obtain ⟨z, hz⟩ : ∃ z, z = zs.getD i 0 := ⟨_, rfl⟩
            have HI : Hid (nitem zs i = enc (us z) ++ enc (zz z)) := by show _ = _; unfold nitem; rw [if_pos (by have := HN.out; omega), ← hz]
            obtain ⟨b, off, rfl, hb, hcell, hzb⟩ := I.out.here i hiN
            rw [← hz] at hcell hzb
            have hu64 := us_eq z
            have hu64b := us_lt z
            have d1 : (0 : Int) ≤ (i : Int) := by omega
            have d2 : (i : Int) < (N : Int) := by omega
            clear hz
            go_wp2_with fail
            go_region_held3 (fun w' => w'.cell? ⟨b, off + i, none⟩ = some (.int .i64 z))
              (first | exact hcell | exact (hb5.cell (p := ⟨b, off + i, none⟩) lb5).trans hcell5 | exact (hb4.cell (p := ⟨b, off + i, none⟩) hb).trans hcell)
              (first
                | (go_at_call 10; refine (uint_ok _ (build zs ts i) _ _ P.out.drew (by omega) (by have := BL.out; omega)).mono ?_; rintro e w4 ⟨⟨x4, rfl, ho4⟩, hb4⟩; rw [Int.toNat_natCast] at ho4; have hcell5 : w4.cell? ⟨b, off + i, none⟩ = some (.int .i64 z) := (hb4.cell (p := ⟨b, off + i, none⟩) hb).trans hcell; have lb5 : b < w4.heap.size := Nat.lt_of_lt_of_le hb hb4.size)
                | (go_at_call 11; refine (int_ok _ (build zs ts i ++ enc (us z)) _ _ ho4.bs hzb (by have := BL.out; have := enc_len hu64b; rw [List.length_append]; omega)).mono ?_; rintro e w5 ⟨⟨x5, rfl, ho5⟩, hb5⟩))
            have Q := (show Hid _ from ho5.bs)
            have K := (bel_of_drew hb4).trans (hb5.mono (bel_of_drew hb4).size)
            have I' := (show Hid _ from I.out.step K)
            have T' := (show Hid _ from T.out.step K)
            have G' := (show Hid _ from G.out.trans (K.mono G.out.size))
            clear I T G P ho4 ho5 hb4 hb5 hcell5 lb5 hcell K hb
            go_wp2_with fail
            go_meet
            exact ⟨by rw [HI.out, ← List.append_assoc]; exact Q.out, G'.out, I'.out, T'.out⟩
          · have HI : Hid (nitem zs i = []) := by show _ = _; unfold nitem; rw [if_neg (by have := HN.out; omega)]
            have hd : decide (i < N) = false := decide_eq_false hiN
            go_wp2_with fail
            go_meet
            exact ⟨by rw [HI.out, List.append_nil]; exact P.out, G.out, I.out, T.out⟩
        case rest =>
          clear I T G P
          obtain ⟨p1, g1, i1, t1⟩ := hcut
          have P := (show Hid _ from p1)
          have I := (show Hid _ from i1)
          have T := (show Hid _ from t1)
          have G := (show Hid _ from g1)
          have NL : Hid ((nitem zs i).length ≤ 20) := nlen HNUM.out i
          clear p1 i1 t1 g1
          by_cases hiM : i < M
          · obtain ⟨b, off, t, rfl, hb, hcell, ht⟩ := T.out.here i hiM
            obtain ⟨tt, htt⟩ : ∃ tt, tt = ts.getD i [] := ⟨_, rfl⟩
            rw [← htt] at ht
            have HI : Hid (titem ts i = enc (tt.take 300).length ++ tt.take 300) := by show _ = _; unfold titem; rw [if_pos (by have := HM.out; omega), ← htt]
            have d1 : (0 : Int) ≤ (i : Int) := by omega
            have d2 : (i : Int) < (M : Int) := by omega
            obtain ⟨ta, tc, rfl, t1, t2, t3, t4⟩ := ht.form
            clear t3 t4 htt
            have HT := (show Hid _ from ht)
            clear ht
            obtain ⟨tl, etl⟩ : ∃ tl, tl = tt.length := ⟨_, rfl⟩
            have HTL : Hid (tl = tt.length) := etl
            rw [← etl] at HT t1 hcell
            clear etl
            by_cases h300 : tl ≤ 300
            · have e300 : Hid (tt.take 300 = tt) := List.take_of_length_le (by have := HTL.out; omega)
              rw [e300.out] at HI
              have d3 : ((300 : Int) < (tl : Int)) = False := eq_false (by omega)
              have d5 : (tl : Int) ≤ (tc : Int) := by omega
              have d6 : (0 : Int) ≤ (tl : Int) := by omega
              go_wp2_with fail
              go_region_held3 (fun w' => w'.cell? ⟨b, off + i, none⟩ = some (.slice ta tl tc))
                (first | exact hcell | exact (hb4.cell (p := ⟨b, off + i, none⟩) hb).trans hcell)
                (first | (go_at_call 12; refine (bytes_ok _ _ (build zs ts i ++ nitem zs i) tt _ P.out.drew HT.out.drew (by have := BL.out; have := NL.out; have := HTL.out; rw [List.length_append]; omega)).mono ?_; rintro e w4 ⟨⟨x4, rfl, ho4⟩, hb4⟩))
              have Q := (show Hid _ from ho4.bs)
              have K := bel_of_drew hb4
              have I' := (show Hid _ from I.out.step K)
              have T' := (show Hid _ from T.out.step K)
              have G' := (show Hid _ from G.out.trans (K.mono G.out.size))
              clear I T G P ho4 hb4 hcell K hb HT
              go_wp2_with fail
              exact ⟨⟨i + 1, by omega, by go_num, by show Bs _ _ (build zs ts i ++ nitem zs i ++ titem ts i); rw [HI.out, ← List.append_assoc]; exact Q.out, G'.out, I'.out, T'.out⟩, by simp [intOf]; omega⟩
            · have H3 := (show Hid _ from HT.out.cut 300 (by have := HTL.out; omega))
              have e300 : Hid ((tt.take 300).length = 300) := by show _ = _; rw [List.length_take]; have := HTL.out; omega
              have d3 : ((300 : Int) < (tl : Int)) = True := eq_true (by omega)
              have d5 : (300 : Int) ≤ (tc : Int) := by omega
              go_wp2_with fail
              go_region_held3 (fun w' => w'.cell? ⟨b, off + i, none⟩ = some (.slice ta tl tc))
                (first | exact hcell | exact (hb4.cell (p := ⟨b, off + i, none⟩) hb).trans hcell)
                (first | (go_at_call 12; refine (bytes_ok _ _ (build zs ts i ++ nitem zs i) (tt.take 300) _ P.out.drew H3.out.drew (by have := BL.out; have := NL.out; have := e300.out; rw [List.length_append]; omega)).mono ?_; rintro e w4 ⟨⟨x4, rfl, ho4⟩, hb4⟩))
              have Q := (show Hid _ from ho4.bs)
              have K := bel_of_drew hb4
              have I' := (show Hid _ from I.out.step K)
              have T' := (show Hid _ from T.out.step K)
              have G' := (show Hid _ from G.out.trans (K.mono G.out.size))
              clear I T G P ho4 hb4 hcell K hb HT H3
              go_wp2_with fail
              exact ⟨⟨i + 1, by omega, by go_num, by show Bs _ _ (build zs ts i ++ nitem zs i ++ titem ts i); rw [HI.out, ← List.append_assoc]; exact Q.out, G'.out, I'.out, T'.out⟩, by simp [intOf]; omega⟩
          · have HI : Hid (titem ts i = []) := by show _ = _; unfold titem; rw [if_neg (by have := HM.out; omega)]
            have hd : decide (i < M) = false := decide_eq_false hiM
            go_wp2_with fail
            exact ⟨⟨i + 1, by omega, by go_num, by show Bs _ _ (build zs ts i ++ nitem zs i ++ titem ts i); rw [HI.out, List.append_nil]; exact P.out, G.out, I.out, T.out⟩, by simp [intOf]; omega⟩
end Go.Proofs.Ytnchmflbhcdngaa
