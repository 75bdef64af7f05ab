/- The walk of PackReads. -/
import Derived.Test.YtnchmflbhcdngaaAl
namespace Go.Proofs.Ytnchmflbhcdngaa
open Go.RowKit
set_option linter.unusedVariables false

set_option maxRecDepth 100000 in
theorem xor1 : ∀ x : Fin 256, 0 ≤ bits .xor .u8 ((x.val : Nat) : Int) 1 ∧ bits .xor .u8 ((x.val : Nat) : Int) 1 < 256 := by decide +kernel
theorem xor_one {cs : List Nat} (h : By cs) (j : Nat) : ∃ d : Nat, bits .xor .u8 (bt cs j) 1 = (d : Int) ∧ d < 256 := by
  have hb := bt_bd h j
  have h1 : 0 ≤ bits .xor .u8 (bt cs j) 1 ∧ bits .xor .u8 (bt cs j) 1 < 256 := xor1 ⟨cs.getD j 0, by unfold bt at hb; omega⟩
  exact ⟨(bits .xor .u8 (bt cs j) 1).toNat, by omega, by omega⟩
set_option maxHeartbeats 4000000 in
set_option maxRecDepth 100000 in
theorem reads_walk (v : Value) (bs : List Nat) (most : Int) (w : World) (h : Bs w v bs) (hl : bs.length ≤ 140737488351232) :
    Calls Try.prog 4 #[v, .int .i64 most] w fun e w' => e = .returned (.bool true) ∧ Below w.heap.size w w' := by
  have H := (show Hid _ from h)
  obtain ⟨L, hL⟩ : ∃ L, L = bs.length := ⟨_, rfl⟩
  have HL : Hid (L = bs.length) := hL
  rw [← hL] at hl
  clear hL h
  go_enter Try.func4, Try.ntmps4
  go_wp2_with fail
  refine (awake_ok _).mono ?_
  rintro e w1 ⟨rfl, hb1⟩
  replace H := (show Hid _ from H.out.step hb1)
  have G := (show Hid _ from hb1)
  clear hb1
  go_wp2_with fail
  refine (spare_ok _ bs _ H.out (by have := HL.out; omega)).mono ?_
  rintro e w2 ⟨⟨g, cap, rfl, ho⟩, hb⟩
  have F := (show Hid _ from ho.bs)
  rw [← HL.out] at F ⊢
  have X := (show Hid _ from F.out.cut L (by have := HL.out; simp; omega))
  rw [HL.out, List.take_left, ← HL.out] at X
  replace H := (show Hid _ from H.out.step hb)
  replace G := (show Hid _ from G.out.trans (hb.mono G.out.size))
  clear hb
  clear ho
  go_wp2_with fail
  by_cases hn : ∃ n, n < 18446744073709551616 ∧ enc n <+: bs
  · obtain ⟨n, hn, hf⟩ := hn
    have HF : Hid (enc n <+: bs) := hf
    obtain ⟨k, hk⟩ : ∃ k, k = (enc n).length := ⟨_, rfl⟩
    have HK : Hid (k = (enc n).length) := hk
    have hk2 : k ≤ L := by have := hf.length_le; have := HL.out; omega
    have hk3 : k ≤ 10 := by have := enc_len hn; omega
    clear hf hk
    refine (readu_yes _ bs n _ X.out hn HF.out).mono ?_
    rintro e wb ⟨rfl, rfl⟩
    rw [← HK.out]
    go_wp2_with fail
    refine (docu_yes _ bs n _ H.out hn HF.out).mono ?_
    rintro e wc ⟨rfl, hb⟩
    rw [← HK.out]
    replace H := (show Hid _ from H.out.step hb)
    replace X := (show Hid _ from X.out.step hb)
    replace F := (show Hid _ from F.out.step hb)
    replace G := (show Hid _ from G.out.trans (hb.mono G.out.size))
    clear hb
    go_wp2_with fail
    refine (readi_yes _ bs n _ X.out hn HF.out).mono ?_
    rintro e wd ⟨rfl, rfl⟩
    rw [← HK.out]
    go_wp2_with fail
    refine (doci_yes _ bs n _ H.out hn HF.out).mono ?_
    rintro e wz ⟨rfl, hb⟩
    rw [← HK.out]
    replace H := (show Hid _ from H.out.step hb)
    replace X := (show Hid _ from X.out.step hb)
    replace F := (show Hid _ from F.out.step hb)
    replace G := (show Hid _ from G.out.trans (hb.mono G.out.size))
    clear hb
    go_wp2_with fail
    by_cases hm : 0 ≤ most ∧ most ≤ 65536
    · by_cases hl : (n : Int) ≤ most ∧ (enc n).length + n ≤ bs.length
      · refine (readb_yes _ bs n most _ X.out HF.out hm hl).mono ?_
        rintro e wa ⟨⟨u, rfl, ho⟩, hb⟩
        rw [← HK.out] at ho ⊢
        obtain ⟨ys, hys⟩ : ∃ ys, ys = (bs.drop k).take n := ⟨_, rfl⟩
        rw [← hys] at ho
        have hyl : ys.length ≤ 65536 := by rw [hys, List.length_take]; omega
        have HYS : Hid (ys = (bs.drop k).take n) := hys
        clear hys
        have Z := (show Hid _ from hb)
        have U := (show Hid _ from ho)
        have P := (show Hid _ from H.out.step hb)
        clear ho hb
        go_wp2_with fail
        refine (docb_yes _ bs n most _ P.out HF.out hm hl).mono ?_
        rintro e wb2 ⟨⟨v, rfl, ho⟩, hb⟩
        rw [← HK.out] at ho ⊢
        rw [← HYS.out] at ho
        replace Z := (show Hid _ from Z.out.trans (hb.mono Z.out.size))
        replace U := (show Hid _ from U.out.step hb)
        have V := (show Hid _ from ho.bs)
        clear ho hb P
        go_wp2_with fail
        refine (same_ok _ _ ys ys _ U.out.bs V.out).mono ?_
        rintro e wc2 ⟨rfl, hb⟩
        rw [show decide (ys = ys) = true by simp]
        replace Z := (show Hid _ from Z.out.trans (hb.mono Z.out.size))
        replace U := (show Hid _ from U.out.step hb)
        clear hb V
        rcases U.out.head with ⟨rfl, _⟩ | ⟨g2, c2, rfl, hg1, hg2, hg3, hg4⟩
        · go_wp2_with fail
          refine wp_loop_rounds 1 ?_
          rw [rounds_succ]
          go_wp2_with fail
          refine (kept_ok _ _ bs _ (F.out.step Z.out) (H.out.step Z.out)).mono ?_
          rintro e wf ⟨rfl, hb⟩
          replace Z := (show Hid _ from Z.out.trans (hb.mono Z.out.size))
          clear hb
          go_wp2_with fail
          go_ret
          exact ⟨rfl, G.out.trans (Z.out.mono G.out.size)⟩
        · obtain ⟨m, hm2⟩ : ∃ m, m = ys.length := ⟨_, rfl⟩
          have HM2 : Hid (m = ys.length) := hm2
          rw [← hm2] at hg3 U hyl ⊢
          clear hm2
          have WZ : Hid (wz.heap.size ≤ g2) := hg1
          clear hg1 hg2
          go_wp2_with fail
          go_loopw [117] (fun i wr => ∃ (j : Nat) (cs : List Nat), j ≤ m ∧ i = .int .i64 j ∧ cs.length = m ∧ OwnB wr wz.heap.size (.slice (some ⟨g2, 0, none⟩) m c2) cs ∧ Below wz.heap.size wz wr) (fun i _ => m - (intOf i).toNat)
          case atStart => exact ⟨0, ys, by omega, rfl, HM2.out.symm, U.out, Z.out⟩
          case round =>
            clear U Z
            obtain ⟨j, cs, hj, rfl, hcs, ho, hb⟩ := hrel
            have U := (show Hid _ from ho)
            have Z := (show Hid _ from hb)
            have HCS : Hid (cs.length = m) := hcs
            clear ho hb hcs
            by_cases hjm : j = m
            · subst hjm
              go_wp2_with fail
              refine (kept_ok _ _ bs _ (F.out.step Z.out) (H.out.step Z.out)).mono ?_
              rintro e wf ⟨rfl, hb⟩
              replace Z := (show Hid _ from Z.out.trans (hb.mono Z.out.size))
              clear hb
              go_wp2_with fail
              go_ret
              exact ⟨rfl, G.out.trans (Z.out.mono G.out.size)⟩
            · have hjl : j < m := by omega
              have hcell := U.out.cell HCS.out j hjl
              have hfree := U.out.free j
              have hbt := bt_bd U.out.byte j
              obtain ⟨d, hd, hd2⟩ := xor_one U.out.byte j
              go_wp2_with fail
              refine ⟨⟨j + 1, cs.set j d, by omega, by go_num, by rw [List.length_set]; exact HCS.out, U.out.set HCS.out j d hd2, Z.out.setCell WZ.out _⟩, by simp [intOf]; omega⟩
      · refine (readb_long _ bs n most _ X.out hn HF.out hm (by omega)).mono ?_
        rintro e wx ⟨rfl, rfl⟩
        go_wp2_with fail
        refine (docb_long _ bs n most _ H.out hn HF.out hm (by omega)).mono ?_
        rintro e wy ⟨rfl, hb⟩
        replace H := (show Hid _ from H.out.step hb)
        replace X := (show Hid _ from X.out.step hb)
        replace F := (show Hid _ from F.out.step hb)
        replace G := (show Hid _ from G.out.trans (hb.mono G.out.size))
        clear hb
        go_wp2_with fail
        refine (same_ok _ _ [] [] _ (bs_nil _) (bs_nil _)).mono ?_
        rintro e we ⟨rfl, hb⟩
        rw [show decide (([] : List Nat) = []) = true by simp]
        replace H := (show Hid _ from H.out.step hb)
        replace X := (show Hid _ from X.out.step hb)
        replace F := (show Hid _ from F.out.step hb)
        replace G := (show Hid _ from G.out.trans (hb.mono G.out.size))
        clear hb
        go_wp2_with fail
        refine wp_loop_rounds 1 ?_
        rw [rounds_succ]
        go_wp2_with fail
        refine (kept_ok _ _ bs _ F.out H.out).mono ?_
        rintro e wf ⟨rfl, hb⟩
        replace G := (show Hid _ from G.out.trans (hb.mono G.out.size))
        clear hb
        go_wp2_with fail
        go_ret
        exact ⟨rfl, G.out⟩
    · refine (readb_arg _ most _ (by omega)).mono ?_
      rintro e wx ⟨rfl, rfl⟩
      go_wp2_with fail
      refine (docb_arg _ most _ (by omega)).mono ?_
      rintro e wy ⟨rfl, rfl⟩
      go_wp2_with fail
      refine (same_ok _ _ [] [] _ (bs_nil _) (bs_nil _)).mono ?_
      rintro e we ⟨rfl, hb⟩
      rw [show decide (([] : List Nat) = []) = true by simp]
      replace H := (show Hid _ from H.out.step hb)
      replace X := (show Hid _ from X.out.step hb)
      replace F := (show Hid _ from F.out.step hb)
      replace G := (show Hid _ from G.out.trans (hb.mono G.out.size))
      clear hb
      go_wp2_with fail
      refine wp_loop_rounds 1 ?_
      rw [rounds_succ]
      go_wp2_with fail
      refine (kept_ok _ _ bs _ F.out H.out).mono ?_
      rintro e wf ⟨rfl, hb⟩
      replace G := (show Hid _ from G.out.trans (hb.mono G.out.size))
      clear hb
      go_wp2_with fail
      go_ret
      exact ⟨rfl, G.out⟩
  · have HN : Hid (Non bs) := fun n h1 h2 => hn ⟨n, h1, h2⟩
    clear hn
    refine (readu_no _ bs _ X.out HN.out).mono ?_
    rintro e wb ⟨rfl, rfl⟩
    go_wp2_with fail
    refine (docu_no _ bs _ H.out HN.out).mono ?_
    rintro e wc ⟨rfl, hb⟩
    replace H := (show Hid _ from H.out.step hb)
    replace X := (show Hid _ from X.out.step hb)
    replace F := (show Hid _ from F.out.step hb)
    replace G := (show Hid _ from G.out.trans (hb.mono G.out.size))
    clear hb
    go_wp2_with fail
    refine (readi_no _ bs _ X.out HN.out).mono ?_
    rintro e wd ⟨rfl, rfl⟩
    go_wp2_with fail
    refine (doci_no _ bs _ H.out HN.out).mono ?_
    rintro e wz ⟨rfl, hb⟩
    replace H := (show Hid _ from H.out.step hb)
    replace X := (show Hid _ from X.out.step hb)
    replace F := (show Hid _ from F.out.step hb)
    replace G := (show Hid _ from G.out.trans (hb.mono G.out.size))
    clear hb
    go_wp2_with fail
    by_cases hm : 0 ≤ most ∧ most ≤ 65536
    · refine (readb_no _ bs most _ X.out HN.out hm).mono ?_
      rintro e wx ⟨rfl, rfl⟩
      go_wp2_with fail
      refine (docb_no _ bs most _ H.out HN.out hm).mono ?_
      rintro e wy ⟨rfl, hb⟩
      replace H := (show Hid _ from H.out.step hb)
      replace X := (show Hid _ from X.out.step hb)
      replace F := (show Hid _ from F.out.step hb)
      replace G := (show Hid _ from G.out.trans (hb.mono G.out.size))
      clear hb
      go_wp2_with fail
      refine (same_ok _ _ [] [] _ (bs_nil _) (bs_nil _)).mono ?_
      rintro e we ⟨rfl, hb⟩
      rw [show decide (([] : List Nat) = []) = true by simp]
      replace H := (show Hid _ from H.out.step hb)
      replace X := (show Hid _ from X.out.step hb)
      replace F := (show Hid _ from F.out.step hb)
      replace G := (show Hid _ from G.out.trans (hb.mono G.out.size))
      clear hb
      go_wp2_with fail
      refine wp_loop_rounds 1 ?_
      rw [rounds_succ]
      go_wp2_with fail
      refine (kept_ok _ _ bs _ F.out H.out).mono ?_
      rintro e wf ⟨rfl, hb⟩
      replace G := (show Hid _ from G.out.trans (hb.mono G.out.size))
      clear hb
      go_wp2_with fail
      go_ret
      exact ⟨rfl, G.out⟩
    · refine (readb_arg _ most _ (by omega)).mono ?_
      rintro e wx ⟨rfl, rfl⟩
      go_wp2_with fail
      refine (docb_arg _ most _ (by omega)).mono ?_
      rintro e wy ⟨rfl, rfl⟩
      go_wp2_with fail
      refine (same_ok _ _ [] [] _ (bs_nil _) (bs_nil _)).mono ?_
      rintro e we ⟨rfl, hb⟩
      rw [show decide (([] : List Nat) = []) = true by simp]
      replace H := (show Hid _ from H.out.step hb)
      replace X := (show Hid _ from X.out.step hb)
      replace F := (show Hid _ from F.out.step hb)
      replace G := (show Hid _ from G.out.trans (hb.mono G.out.size))
      clear hb
      go_wp2_with fail
      refine wp_loop_rounds 1 ?_
      rw [rounds_succ]
      go_wp2_with fail
      refine (kept_ok _ _ bs _ F.out H.out).mono ?_
      rintro e wf ⟨rfl, hb⟩
      replace G := (show Hid _ from G.out.trans (hb.mono G.out.size))
      clear hb
      go_wp2_with fail
      go_ret
      exact ⟨rfl, G.out⟩
end Go.Proofs.Ytnchmflbhcdngaa
