/- The walk of PackOne. -/
import Derived.Test.YtnchmflbhcdngaaAg
namespace Go.Proofs.Ytnchmflbhcdngaa
open Go.RowKit
set_option linter.unusedVariables false

theorem one_bytes {n k m : Nat} {bs : List Nat} (hf : enc n <+: bs) (hk : k = (enc n).length) (hm : m = k + n) (hl : k + n ≤ bs.length) :
    ([] : List Nat) ++ enc ((bs.drop k).take n).length ++ (bs.drop k).take n = bs.take m := by
  have h1 : ((bs.drop k).take n).length = n := by rw [List.length_take, List.length_drop]; omega
  rw [h1, hm, List.take_add, front_cut hf hk, List.nil_append]
theorem uz_in {n : Nat} (h : n < 18446744073709551616) : enc (zz (uz n)) = enc n := by rw [zz_uz]
set_option maxHeartbeats 4000000 in
set_option maxRecDepth 100000 in
theorem one_walk (v : Value) (bs : List Nat) (w : World) (h : Bs w v bs) (hl : bs.length ≤ 140737488351232) :
    Calls Try.prog 6 #[v] w fun e w' => e = .returned (.bool true) ∧ Below w.heap.size w w' := by
  have H := (show Hid _ from h)
  obtain ⟨hby, a, c, rfl, hlc, hc9, hno, hx⟩ := h
  clear hby hno hx
  obtain ⟨L, hL⟩ : ∃ L, L = bs.length := ⟨_, rfl⟩
  have HL : Hid (L = bs.length) := hL
  rw [← hL] at hlc hl H ⊢
  clear hL
  go_enter Try.func6, Try.ntmps6
  go_wp2_with fail
  refine (awake_ok _).mono ?_
  rintro e w1 ⟨rfl, hb1⟩
  replace H := (show Hid _ from H.out.step hb1)
  have G := (show Hid _ from hb1)
  clear hb1
  go_wp2_with fail
  refine (twin_ok _ bs _ H.out (by have := HL.out; omega)).mono ?_
  rintro e w2 ⟨⟨u, rfl, ho⟩, hb⟩
  replace H := (show Hid _ from H.out.step hb)
  replace G := (show Hid _ from G.out.trans (hb.mono G.out.size))
  have U := (show Hid _ from ho.bs)
  clear ho hb
  go_wp2_with fail
  by_cases hn : ∃ n, n < 18446744073709551616 ∧ enc n <+: bs
  · obtain ⟨n, hn, hf⟩ := hn
    have HF : Hid (enc n <+: bs) := hf
    obtain ⟨k, hk⟩ : ∃ k, k = (enc n).length := ⟨_, rfl⟩
    have HK : Hid (k = (enc n).length) := hk
    have hk1 : 1 ≤ k := by have := enc_pos n; omega
    have hk2 : k ≤ L := by have := hf.length_le; have := HL.out; omega
    have hk3 : k ≤ 10 := by have := enc_len hn; omega
    clear hf hk
    have hd1 : decide ((k : Int) < 1) = false := decide_eq_false (by omega)
    have hd2 : decide (L < k) = false := decide_eq_false (by omega)
    have i1 : (0 : Int) ≤ (k : Int) := by omega
    have i2 : (k : Int) ≤ (c : Int) := by omega
    have i3 : k ≤ c := by omega
    have u1 := uz_bd hn
    refine (readu_yes _ bs n _ U.out hn HF.out).mono ?_
    rintro e w3 ⟨rfl, rfl⟩
    rw [← HK.out]
    clear U
    have P := (show Hid _ from H.out.cut k (by have := HL.out; omega))
    rw [front_cut HF.out HK.out] at P
    go_wp2_with fail
    go_region_held3 (fun _ => True) (trivial)
      (first
        | (go_at_call 10; refine (uint_ok _ [] _ _ (bs_nil _) (by omega) (by simp)).mono ?_; rintro e w4 ⟨⟨x4, rfl, ho4⟩, hb4⟩)
        | (go_at_call 13; refine (same_ok _ _ (enc n) (enc n) _ (by simpa using ho4.bs) (P.out.drew.step hb4)).mono ?_; rintro e w5 ⟨rfl, hb5⟩; rw [show decide ((enc n) = (enc n)) = true by simp]))
    replace H := (show Hid _ from (H.out.step (bel_of_drew hb4)).step hb5)
    replace G := (show Hid _ from (G.out.trans ((bel_of_drew hb4).mono G.out.size)))
    replace G := (show Hid _ from (G.out.trans (hb5.mono G.out.size)))
    clear hb4 hb5 ho4 P
    go_wp2_with fail
    refine (twin_ok _ bs _ H.out (by have := HL.out; omega)).mono ?_
    rintro e w2 ⟨⟨u, rfl, ho⟩, hb⟩
    replace H := (show Hid _ from H.out.step hb)
    replace G := (show Hid _ from G.out.trans (hb.mono G.out.size))
    have U := (show Hid _ from ho.bs)
    clear ho hb
    go_wp2_with fail
    refine (readi_yes _ bs n _ U.out hn HF.out).mono ?_
    rintro e w3 ⟨rfl, rfl⟩
    rw [← HK.out]
    clear U
    have P := (show Hid _ from H.out.cut k (by have := HL.out; omega))
    rw [front_cut HF.out HK.out] at P
    go_wp2_with fail
    go_region_held3 (fun _ => True) (trivial)
      (first
        | (go_at_call 11; refine (int_ok _ [] _ _ (bs_nil _) u1 (by simp)).mono ?_; rintro e w4 ⟨⟨x4, rfl, ho4⟩, hb4⟩)
        | (go_at_call 13; refine (same_ok _ _ (enc n) (enc n) _ (by have := ho4.bs; rw [uz_in hn] at this; simpa using this) (P.out.drew.step hb4)).mono ?_; rintro e w5 ⟨rfl, hb5⟩; rw [show decide ((enc n) = (enc n)) = true by simp]))
    replace H := (show Hid _ from (H.out.step (bel_of_drew hb4)).step hb5)
    replace G := (show Hid _ from (G.out.trans ((bel_of_drew hb4).mono G.out.size)))
    replace G := (show Hid _ from (G.out.trans (hb5.mono G.out.size)))
    clear hb4 hb5 ho4 P
    go_wp2_with fail
    refine (twin_ok _ bs _ H.out (by have := HL.out; omega)).mono ?_
    rintro e w2 ⟨⟨u, rfl, ho⟩, hb⟩
    replace H := (show Hid _ from H.out.step hb)
    replace G := (show Hid _ from G.out.trans (hb.mono G.out.size))
    have U := (show Hid _ from ho.bs)
    clear ho hb
    go_wp2_with fail
    by_cases hn2 : (n : Int) ≤ 65536 ∧ k + n ≤ L
    · refine (readb_yes _ bs n 65536 _ U.out HF.out (by omega) (by have := HL.out; have := HK.out; omega)).mono ?_
      rintro e w3 ⟨⟨x, rfl, ho⟩, hb⟩
      rw [← HK.out] at ho ⊢
      replace H := (show Hid _ from H.out.step hb)
      replace G := (show Hid _ from G.out.trans (hb.mono G.out.size))
      have X := (show Hid _ from ho.bs)
      clear U ho hb
      obtain ⟨m, hm⟩ : ∃ m, m = k + n := ⟨_, rfl⟩
      rw [← hm]
      have hm1 : m ≤ L := by omega
      have P := (show Hid _ from H.out.cut m (by have := HL.out; omega))
      have HE := (show Hid _ from one_bytes HF.out HK.out hm (by have := HL.out; omega))
      have hd3 : decide (m ≤ L) = true := decide_eq_true hm1
      have i4 : (0 : Int) ≤ (m : Int) := by omega
      have i5 : (m : Int) ≤ (c : Int) := by omega
      have i6 : m ≤ c := by omega
      have hxl : Hid (((bs.drop k).take n).length ≤ 65536) := by show _ ≤ _; rw [List.length_take]; omega
      clear hm
      go_wp2_with fail
      go_region_held3 (fun _ => True) (trivial)
        (first
          | (go_at_call 12; refine (bytes_ok _ _ [] _ _ (bs_nil _) X.out.drew (by have := hxl.out; simp at this ⊢; omega)).mono ?_; rintro e w4 ⟨⟨x4, rfl, ho4⟩, hb4⟩)
          | (go_at_call 13; refine (same_ok _ _ (bs.take m) (bs.take m) _ (by have := ho4.bs; rw [HE.out] at this; exact this) (P.out.drew.step hb4)).mono ?_; rintro e w5 ⟨rfl, hb5⟩; rw [show decide (bs.take m = bs.take m) = true by simp]))
      replace G := (show Hid _ from (G.out.trans ((bel_of_drew hb4).mono G.out.size)))
      replace G := (show Hid _ from (G.out.trans (hb5.mono G.out.size)))
      clear hb4 hb5 ho4 P X
      go_wp2_with fail
      go_ret
      exact ⟨rfl, G.out⟩
    · refine (readb_long _ bs n 65536 _ U.out hn HF.out (by omega) (by have := HL.out; have := HK.out; omega)).mono ?_
      rintro e w3 ⟨rfl, rfl⟩
      clear U
      go_wp2_with fail
      go_quiet (fail)
      have hq := bel_drewN G.out nq
      have hH := (H.out.step (bel_drewN (Below.refl _ _) nq))
      generalize w3.drewN nq = wq at *
      replace G := (show Hid _ from hq)
      replace H := (show Hid _ from hH)
      clear hq hH
      go_wp2_with fail
      go_ret
      exact ⟨rfl, G.out⟩
  · have HN : Hid (Non bs) := fun n h1 h2 => hn ⟨n, h1, h2⟩
    clear hn
    refine (readu_no _ bs _ U.out HN.out).mono ?_
    rintro e w3 ⟨rfl, rfl⟩
    clear U
    go_wp2_with fail
    go_quiet (fail)
    have hq := bel_drewN G.out nq
    have hH := (H.out.step (bel_drewN (Below.refl _ _) nq))
    generalize w3.drewN nq = wq at *
    replace G := (show Hid _ from hq)
    replace H := (show Hid _ from hH)
    clear hq hH
    go_wp2_with fail
    refine (twin_ok _ bs _ H.out (by have := HL.out; omega)).mono ?_
    rintro e w2 ⟨⟨u, rfl, ho⟩, hb⟩
    replace H := (show Hid _ from H.out.step hb)
    replace G := (show Hid _ from G.out.trans (hb.mono G.out.size))
    have U := (show Hid _ from ho.bs)
    clear ho hb
    go_wp2_with fail
    refine (readi_no _ bs _ U.out HN.out).mono ?_
    rintro e w3 ⟨rfl, rfl⟩
    clear U
    go_wp2_with fail
    go_quiet (fail)
    have hq := bel_drewN G.out nq
    have hH := (H.out.step (bel_drewN (Below.refl _ _) nq))
    generalize w3.drewN nq = wq at *
    replace G := (show Hid _ from hq)
    replace H := (show Hid _ from hH)
    clear hq hH
    go_wp2_with fail
    refine (twin_ok _ bs _ H.out (by have := HL.out; omega)).mono ?_
    rintro e w2 ⟨⟨u, rfl, ho⟩, hb⟩
    replace H := (show Hid _ from H.out.step hb)
    replace G := (show Hid _ from G.out.trans (hb.mono G.out.size))
    have U := (show Hid _ from ho.bs)
    clear ho hb
    go_wp2_with fail
    refine (readb_no _ bs 65536 _ U.out HN.out (by omega)).mono ?_
    rintro e w3 ⟨rfl, rfl⟩
    clear U
    go_wp2_with fail
    go_quiet (fail)
    have hq := bel_drewN G.out nq
    have hH := (H.out.step (bel_drewN (Below.refl _ _) nq))
    generalize w3.drewN nq = wq at *
    replace G := (show Hid _ from hq)
    replace H := (show Hid _ from hH)
    clear hq hH
    go_wp2_with fail
    go_ret
    exact ⟨rfl, G.out⟩
end Go.Proofs.Ytnchmflbhcdngaa
