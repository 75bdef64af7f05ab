/- The walk of PackBack. -/
import Derived.Test.YtnchmflbhcdngaaAg
namespace Go.Proofs.Ytnchmflbhcdngaa
open Go.RowKit
set_option linter.unusedVariables false

theorem non_cut {n j : Nat} (hj : j < (enc n).length) : Non ((enc n).take j) := fun m hm h => by
  have h1 : enc m <+: enc n := h.trans (List.take_prefix _ _)
  obtain rfl := enc_inj_front m n (enc n) h1 (List.prefix_refl _)
  have := h.length_le
  rw [List.length_take] at this
  omega
theorem i64_bd (n : Int) : -9223372036854775808 ≤ wrap64 n ∧ wrap64 n ≤ 9223372036854775807 := by
  unfold wrap64
  omega
theorem mod_nat (a : Int) (k : Nat) (h : 0 ≤ a) (hk : 1 ≤ k) : ∃ j : Nat, a % (k : Int) = (j : Int) ∧ j < k := by
  have h1 := Int.emod_nonneg a (show (k : Int) ≠ 0 by omega)
  have h2 := Int.emod_lt_of_pos a (show (0 : Int) < k by omega)
  exact ⟨(a % (k : Int)).toNat, by omega, by omega⟩
theorem front_take {n j : Nat} {qs : List Nat} (h : (enc n).length ≤ j) : enc n <+: (enc n ++ qs).take j := by
  rw [List.take_append, List.take_of_length_le h]
  exact List.prefix_append _ _
theorem back_bytes {m : Nat} {qs ms : List Nat} (h : qs.length = m) : ((enc m ++ qs ++ ms).drop (enc m).length).take m = qs := by
  rw [List.append_assoc, List.drop_left, ← h, List.take_left]
set_option maxHeartbeats 4000000 in
set_option maxRecDepth 100000 in
theorem back_walk (n : Nat) (v u : Value) (qs ms : List Nat) (cut : Int) (w : World) (h : Bs w v qs) (hr : Bs w u ms) (hn : n < 18446744073709551616) (hl : qs.length ≤ 140737488351232) (hm : ms.length ≤ 140737488351232) (hc : 0 ≤ cut ∧ cut ≤ 255) :
    Calls Try.prog 5 #[.int .u64 n, v, u, .int .u8 cut] w fun e w' => e = .returned (.bool true) ∧ Below w.heap.size w w' := by
  have H := (show Hid _ from h)
  have R := (show Hid _ from hr)
  obtain ⟨hby, a, c, rfl, hlc, hc9, hno, hx⟩ := h
  clear hby hno hx hr
  obtain ⟨L, hL⟩ : ∃ L, L = qs.length := ⟨_, rfl⟩
  have HL : Hid (L = qs.length) := hL
  rw [← hL] at hlc hl H ⊢
  clear hL
  go_enter Try.func5, Try.ntmps5
  go_wp2_with fail
  refine (awake_ok _).mono ?_
  rintro e w1 ⟨rfl, hb1⟩
  replace H := (show Hid _ from H.out.step hb1)
  replace R := (show Hid _ from R.out.step hb1)
  have G := (show Hid _ from hb1)
  clear hb1
  by_cases h300 : L ≤ 300
  · have Q := (show Hid _ from H.out.cut L (by have := HL.out; omega))
    have hq : (qs.take L).length = L := by rw [List.length_take]; have := HL.out; omega
    clear H
    go_wp2_with fail
    refine (uint_ok _ [] _ _ (bs_nil _) (by omega) (by simp)).mono ?_
    rintro e w2 ⟨⟨y, rfl, ho⟩, hb⟩
    replace Q := (show Hid _ from Q.out.step hb)
    replace R := (show Hid _ from R.out.step hb)
    replace G := (show Hid _ from G.out.trans (hb.mono G.out.size))
    have A := (show Hid _ from ho.bs)
    clear ho hb
    rw [Int.toNat_natCast, List.nil_append] at A
    obtain ⟨aka, cka, rfl, hka1, hka2, hka3, hka4⟩ := A.out.form
    clear hka4 hka3
    obtain ⟨ka, eka⟩ : ∃ k, k = (enc n).length := ⟨_, rfl⟩
    have Eka : Hid (ka = (enc n).length) := eka
    have hka0 : 1 ≤ ka ∧ ka ≤ 310 := by have := enc_pos n; have := enc_len hn; omega
    rw [← eka] at hka1 A
    rw [← eka]
    clear eka
    go_wp2_with fail
    refine (int_ok _ [] _ _ (bs_nil _) (i64_bd n) (by simp)).mono ?_
    rintro e w3 ⟨⟨y, rfl, ho⟩, hb⟩
    replace Q := (show Hid _ from Q.out.step hb)
    replace R := (show Hid _ from R.out.step hb)
    replace A := (show Hid _ from A.out.step hb)
    replace G := (show Hid _ from G.out.trans (hb.mono G.out.size))
    have B := (show Hid _ from ho.bs)
    clear ho hb
    rw [List.nil_append] at B
    obtain ⟨akb, ckb, rfl, hkb1, hkb2, hkb3, hkb4⟩ := B.out.form
    clear hkb4 hkb3
    obtain ⟨kb, ekb⟩ : ∃ k, k = (enc (zz (wrap64 n))).length := ⟨_, rfl⟩
    have Ekb : Hid (kb = (enc (zz (wrap64 n))).length) := ekb
    have hkb0 : 1 ≤ kb ∧ kb ≤ 310 := by have := enc_pos (zz (wrap64 n)); have := enc_len (zz_lt (i64_bd n).1 (i64_bd n).2); omega
    rw [← ekb] at hkb1 B
    rw [← ekb]
    clear ekb
    go_wp2_with fail
    refine (bytes_ok _ _ [] (qs.take L) _ (bs_nil _) Q.out (by rw [hq]; simp <;> omega)).mono ?_
    rintro e w4 ⟨⟨y, rfl, ho⟩, hb⟩
    replace Q := (show Hid _ from Q.out.step hb)
    replace R := (show Hid _ from R.out.step hb)
    replace A := (show Hid _ from A.out.step hb)
    replace B := (show Hid _ from B.out.step hb)
    replace G := (show Hid _ from G.out.trans (hb.mono G.out.size))
    have C := (show Hid _ from ho.bs)
    clear ho hb
    rw [List.nil_append, hq] at C
    obtain ⟨akc, ckc, rfl, hkc1, hkc2, hkc3, hkc4⟩ := C.out.form
    clear hkc4 hkc3
    obtain ⟨kc, ekc⟩ : ∃ k, k = (enc L ++ qs.take L).length := ⟨_, rfl⟩
    have Ekc : Hid (kc = (enc L ++ qs.take L).length) := ekc
    have hkc0 : 1 ≤ kc ∧ kc ≤ 310 := by rw [List.length_append, hq] at ekc; have := enc_pos L; have := enc_len (n := L) (by omega); omega
    rw [← ekc] at hkc1 C
    rw [← ekc]
    clear ekc
    go_wp2_with fail
    refine (twin_ok _ (enc n) _ A.out (by have := Eka.out; omega)).mono ?_
    rintro e w5 ⟨⟨y, rfl, ho⟩, hb5⟩
    have T := (show Hid _ from ho)
    have R5 := (show Hid _ from R.out.step hb5)
    have HB5 := (show Hid _ from hb5)
    have hsz := hb5.size
    clear ho hb5
    go_wp2_with (at_builtin; go_loud (refine appB rfl _ _ rfl w4.heap.size (enc n) ms _ _ (by rfl) (by rfl) T.out R5.out hsz (by have := Eka.out; omega) ?_); intro x6 w6 ho6 hb6)
    have hb := HB5.out.trans hb6
    replace Q := (show Hid _ from Q.out.step hb)
    replace R := (show Hid _ from R.out.step hb)
    replace A := (show Hid _ from A.out.step hb)
    replace B := (show Hid _ from B.out.step hb)
    replace C := (show Hid _ from C.out.step hb)
    replace G := (show Hid _ from G.out.trans (hb.mono G.out.size))
    have X := (show Hid _ from ho6.bs)
    clear T R5 HB5 hsz ho6 hb6 hb
    refine (readu_yes _ _ n _ X.out hn (List.prefix_append _ _)).mono ?_
    rintro e wp ⟨rfl, rfl⟩
    rw [← Eka.out]
    clear X
    go_wp2_with fail
    refine (twin_ok _ (enc (zz (wrap64 n))) _ B.out (by have := Ekb.out; omega)).mono ?_
    rintro e w7 ⟨⟨y, rfl, ho⟩, hb5⟩
    have T := (show Hid _ from ho)
    have R5 := (show Hid _ from R.out.step hb5)
    have HB5 := (show Hid _ from hb5)
    have hsz := hb5.size
    clear ho hb5
    go_wp2_with (at_builtin; go_loud (refine appB rfl _ _ rfl wp.heap.size (enc (zz (wrap64 n))) ms _ _ (by rfl) (by rfl) T.out R5.out hsz (by have := Ekb.out; omega) ?_); intro x6 w8 ho6 hb6)
    have hb := HB5.out.trans hb6
    replace Q := (show Hid _ from Q.out.step hb)
    replace R := (show Hid _ from R.out.step hb)
    replace A := (show Hid _ from A.out.step hb)
    replace B := (show Hid _ from B.out.step hb)
    replace C := (show Hid _ from C.out.step hb)
    replace G := (show Hid _ from G.out.trans (hb.mono G.out.size))
    have X := (show Hid _ from ho6.bs)
    clear T R5 HB5 hsz ho6 hb6 hb
    refine (readi_yes _ _ (zz (wrap64 n)) _ X.out (zz_lt (i64_bd n).1 (i64_bd n).2) (List.prefix_append _ _)).mono ?_
    rintro e wq ⟨rfl, rfl⟩
    rw [← Ekb.out, uz_zz]
    clear X
    go_wp2_with fail
    refine (twin_ok _ (enc L ++ qs.take L) _ C.out (by have := Ekc.out; omega)).mono ?_
    rintro e w9 ⟨⟨y, rfl, ho⟩, hb5⟩
    have T := (show Hid _ from ho)
    have R5 := (show Hid _ from R.out.step hb5)
    have HB5 := (show Hid _ from hb5)
    have hsz := hb5.size
    clear ho hb5
    go_wp2_with (at_builtin; go_loud (refine appB rfl _ _ rfl wq.heap.size (enc L ++ qs.take L) ms _ _ (by rfl) (by rfl) T.out R5.out hsz (by have := Ekc.out; omega) ?_); intro x6 wa ho6 hb6)
    have hb := HB5.out.trans hb6
    replace Q := (show Hid _ from Q.out.step hb)
    replace R := (show Hid _ from R.out.step hb)
    replace A := (show Hid _ from A.out.step hb)
    replace B := (show Hid _ from B.out.step hb)
    replace C := (show Hid _ from C.out.step hb)
    replace G := (show Hid _ from G.out.trans (hb.mono G.out.size))
    have X := (show Hid _ from ho6.bs)
    clear T R5 HB5 hsz ho6 hb6 hb
    refine (readb_yes _ _ L 300 _ X.out (by rw [List.append_assoc]; exact List.prefix_append _ _) (by omega) (by rw [List.length_append, List.length_append, hq]; omega)).mono ?_
    rintro e wb ⟨⟨y, rfl, ho⟩, hb⟩
    rw [back_bytes hq] at ho
    have Y := (show Hid _ from ho.bs)
    clear ho X
    replace Q := (show Hid _ from Q.out.step hb)
    replace R := (show Hid _ from R.out.step hb)
    replace A := (show Hid _ from A.out.step hb)
    replace B := (show Hid _ from B.out.step hb)
    replace C := (show Hid _ from C.out.step hb)
    replace G := (show Hid _ from G.out.trans (hb.mono G.out.size))
    clear hb
    have hkc : Hid ((enc L).length + L = kc) := by show _ = _; rw [Ekc.out, List.length_append, hq]
    rw [hkc.out]
    go_wp2_with fail
    refine (same_ok _ _ (qs.take L) (qs.take L) _ Y.out Q.out).mono ?_
    rintro e wc ⟨rfl, hb⟩
    rw [show decide (qs.take L = qs.take L) = true by simp]
    clear Y
    replace Q := (show Hid _ from Q.out.step hb)
    replace R := (show Hid _ from R.out.step hb)
    replace A := (show Hid _ from A.out.step hb)
    replace B := (show Hid _ from B.out.step hb)
    replace C := (show Hid _ from C.out.step hb)
    replace G := (show Hid _ from G.out.trans (hb.mono G.out.size))
    clear hb
    clear Q R
    obtain ⟨j1, e1, l1⟩ := mod_nat cut ka hc.1 (by omega)
    obtain ⟨j2, e2, l2⟩ := mod_nat cut kb hc.1 (by omega)
    obtain ⟨j3, e3, l3⟩ := mod_nat cut kc hc.1 (by omega)
    have f1 : j1 ≤ cka := by omega
    have f2 : j2 ≤ ckb := by omega
    have f3 : j3 ≤ ckc := by omega
    go_wp2_with fail
    refine (readu_no _ _ _ (A.out.cut j1 (by have := Eka.out; omega)) (non_cut (by have := Eka.out; omega))).mono ?_
    rintro e wd ⟨rfl, rfl⟩
    clear A
    go_wp2_with fail
    refine (readi_no _ _ _ (B.out.cut j2 (by have := Ekb.out; omega)) (non_cut (by have := Ekb.out; omega))).mono ?_
    rintro e we ⟨rfl, rfl⟩
    clear B
    go_wp2_with fail
    by_cases hj : j3 < (enc L).length
    · refine (readb_no _ _ 300 _ (C.out.cut j3 (by have := Ekc.out; omega)) (by rw [List.take_append_of_le_length (by omega)]; exact non_cut hj) (by omega)).mono ?_
      rintro e wf ⟨rfl, rfl⟩
      go_wp2_with fail
      go_ret
      exact ⟨rfl, G.out⟩
    · refine (readb_long _ _ L 300 _ (C.out.cut j3 (by have := Ekc.out; omega)) (by omega) (front_take (by omega)) (by omega) (Or.inr (by rw [List.length_take]; have := hkc.out; omega))).mono ?_
      rintro e wf ⟨rfl, rfl⟩
      go_wp2_with fail
      go_ret
      exact ⟨rfl, G.out⟩
  · have Q := (show Hid _ from H.out.cut 300 (by have := HL.out; omega))
    have hq : (qs.take 300).length = 300 := by rw [List.length_take]; have := HL.out; omega
    clear H
    go_wp2_with fail
    refine (uint_ok _ [] _ _ (bs_nil _) (by omega) (by simp)).mono ?_
    rintro e w2 ⟨⟨y, rfl, ho⟩, hb⟩
    replace Q := (show Hid _ from Q.out.step hb)
    replace R := (show Hid _ from R.out.step hb)
    replace G := (show Hid _ from G.out.trans (hb.mono G.out.size))
    have A := (show Hid _ from ho.bs)
    clear ho hb
    rw [Int.toNat_natCast, List.nil_append] at A
    obtain ⟨aka, cka, rfl, hka1, hka2, hka3, hka4⟩ := A.out.form
    clear hka4 hka3
    obtain ⟨ka, eka⟩ : ∃ k, k = (enc n).length := ⟨_, rfl⟩
    have Eka : Hid (ka = (enc n).length) := eka
    have hka0 : 1 ≤ ka ∧ ka ≤ 310 := by have := enc_pos n; have := enc_len hn; omega
    rw [← eka] at hka1 A
    rw [← eka]
    clear eka
    go_wp2_with fail
    refine (int_ok _ [] _ _ (bs_nil _) (i64_bd n) (by simp)).mono ?_
    rintro e w3 ⟨⟨y, rfl, ho⟩, hb⟩
    replace Q := (show Hid _ from Q.out.step hb)
    replace R := (show Hid _ from R.out.step hb)
    replace A := (show Hid _ from A.out.step hb)
    replace G := (show Hid _ from G.out.trans (hb.mono G.out.size))
    have B := (show Hid _ from ho.bs)
    clear ho hb
    rw [List.nil_append] at B
    obtain ⟨akb, ckb, rfl, hkb1, hkb2, hkb3, hkb4⟩ := B.out.form
    clear hkb4 hkb3
    obtain ⟨kb, ekb⟩ : ∃ k, k = (enc (zz (wrap64 n))).length := ⟨_, rfl⟩
    have Ekb : Hid (kb = (enc (zz (wrap64 n))).length) := ekb
    have hkb0 : 1 ≤ kb ∧ kb ≤ 310 := by have := enc_pos (zz (wrap64 n)); have := enc_len (zz_lt (i64_bd n).1 (i64_bd n).2); omega
    rw [← ekb] at hkb1 B
    rw [← ekb]
    clear ekb
    go_wp2_with fail
    refine (bytes_ok _ _ [] (qs.take 300) _ (bs_nil _) Q.out (by rw [hq]; simp <;> omega)).mono ?_
    rintro e w4 ⟨⟨y, rfl, ho⟩, hb⟩
    replace Q := (show Hid _ from Q.out.step hb)
    replace R := (show Hid _ from R.out.step hb)
    replace A := (show Hid _ from A.out.step hb)
    replace B := (show Hid _ from B.out.step hb)
    replace G := (show Hid _ from G.out.trans (hb.mono G.out.size))
    have C := (show Hid _ from ho.bs)
    clear ho hb
    rw [List.nil_append, hq] at C
    obtain ⟨akc, ckc, rfl, hkc1, hkc2, hkc3, hkc4⟩ := C.out.form
    clear hkc4 hkc3
    obtain ⟨kc, ekc⟩ : ∃ k, k = (enc 300 ++ qs.take 300).length := ⟨_, rfl⟩
    have Ekc : Hid (kc = (enc 300 ++ qs.take 300).length) := ekc
    have hkc0 : 1 ≤ kc ∧ kc ≤ 310 := by rw [List.length_append, hq] at ekc; have := enc_pos 300; have := enc_len (n := 300) (by omega); omega
    rw [← ekc] at hkc1 C
    rw [← ekc]
    clear ekc
    go_wp2_with fail
    refine (twin_ok _ (enc n) _ A.out (by have := Eka.out; omega)).mono ?_
    rintro e w5 ⟨⟨y, rfl, ho⟩, hb5⟩
    have T := (show Hid _ from ho)
    have R5 := (show Hid _ from R.out.step hb5)
    have HB5 := (show Hid _ from hb5)
    have hsz := hb5.size
    clear ho hb5
    go_wp2_with (at_builtin; go_loud (refine appB rfl _ _ rfl w4.heap.size (enc n) ms _ _ (by rfl) (by rfl) T.out R5.out hsz (by have := Eka.out; omega) ?_); intro x6 w6 ho6 hb6)
    have hb := HB5.out.trans hb6
    replace Q := (show Hid _ from Q.out.step hb)
    replace R := (show Hid _ from R.out.step hb)
    replace A := (show Hid _ from A.out.step hb)
    replace B := (show Hid _ from B.out.step hb)
    replace C := (show Hid _ from C.out.step hb)
    replace G := (show Hid _ from G.out.trans (hb.mono G.out.size))
    have X := (show Hid _ from ho6.bs)
    clear T R5 HB5 hsz ho6 hb6 hb
    refine (readu_yes _ _ n _ X.out hn (List.prefix_append _ _)).mono ?_
    rintro e wp ⟨rfl, rfl⟩
    rw [← Eka.out]
    clear X
    go_wp2_with fail
    refine (twin_ok _ (enc (zz (wrap64 n))) _ B.out (by have := Ekb.out; omega)).mono ?_
    rintro e w7 ⟨⟨y, rfl, ho⟩, hb5⟩
    have T := (show Hid _ from ho)
    have R5 := (show Hid _ from R.out.step hb5)
    have HB5 := (show Hid _ from hb5)
    have hsz := hb5.size
    clear ho hb5
    go_wp2_with (at_builtin; go_loud (refine appB rfl _ _ rfl wp.heap.size (enc (zz (wrap64 n))) ms _ _ (by rfl) (by rfl) T.out R5.out hsz (by have := Ekb.out; omega) ?_); intro x6 w8 ho6 hb6)
    have hb := HB5.out.trans hb6
    replace Q := (show Hid _ from Q.out.step hb)
    replace R := (show Hid _ from R.out.step hb)
    replace A := (show Hid _ from A.out.step hb)
    replace B := (show Hid _ from B.out.step hb)
    replace C := (show Hid _ from C.out.step hb)
    replace G := (show Hid _ from G.out.trans (hb.mono G.out.size))
    have X := (show Hid _ from ho6.bs)
    clear T R5 HB5 hsz ho6 hb6 hb
    refine (readi_yes _ _ (zz (wrap64 n)) _ X.out (zz_lt (i64_bd n).1 (i64_bd n).2) (List.prefix_append _ _)).mono ?_
    rintro e wq ⟨rfl, rfl⟩
    rw [← Ekb.out, uz_zz]
    clear X
    go_wp2_with fail
    refine (twin_ok _ (enc 300 ++ qs.take 300) _ C.out (by have := Ekc.out; omega)).mono ?_
    rintro e w9 ⟨⟨y, rfl, ho⟩, hb5⟩
    have T := (show Hid _ from ho)
    have R5 := (show Hid _ from R.out.step hb5)
    have HB5 := (show Hid _ from hb5)
    have hsz := hb5.size
    clear ho hb5
    go_wp2_with (at_builtin; go_loud (refine appB rfl _ _ rfl wq.heap.size (enc 300 ++ qs.take 300) ms _ _ (by rfl) (by rfl) T.out R5.out hsz (by have := Ekc.out; omega) ?_); intro x6 wa ho6 hb6)
    have hb := HB5.out.trans hb6
    replace Q := (show Hid _ from Q.out.step hb)
    replace R := (show Hid _ from R.out.step hb)
    replace A := (show Hid _ from A.out.step hb)
    replace B := (show Hid _ from B.out.step hb)
    replace C := (show Hid _ from C.out.step hb)
    replace G := (show Hid _ from G.out.trans (hb.mono G.out.size))
    have X := (show Hid _ from ho6.bs)
    clear T R5 HB5 hsz ho6 hb6 hb
    refine (readb_yes _ _ 300 300 _ X.out (by rw [List.append_assoc]; exact List.prefix_append _ _) (by omega) (by rw [List.length_append, List.length_append, hq]; omega)).mono ?_
    rintro e wb ⟨⟨y, rfl, ho⟩, hb⟩
    rw [back_bytes hq] at ho
    have Y := (show Hid _ from ho.bs)
    clear ho X
    replace Q := (show Hid _ from Q.out.step hb)
    replace R := (show Hid _ from R.out.step hb)
    replace A := (show Hid _ from A.out.step hb)
    replace B := (show Hid _ from B.out.step hb)
    replace C := (show Hid _ from C.out.step hb)
    replace G := (show Hid _ from G.out.trans (hb.mono G.out.size))
    clear hb
    have hkc : Hid ((enc 300).length + 300 = kc) := by show _ = _; rw [Ekc.out, List.length_append, hq]
    rw [hkc.out]
    go_wp2_with fail
    refine (same_ok _ _ (qs.take 300) (qs.take 300) _ Y.out Q.out).mono ?_
    rintro e wc ⟨rfl, hb⟩
    rw [show decide (qs.take 300 = qs.take 300) = true by simp]
    clear Y
    replace Q := (show Hid _ from Q.out.step hb)
    replace R := (show Hid _ from R.out.step hb)
    replace A := (show Hid _ from A.out.step hb)
    replace B := (show Hid _ from B.out.step hb)
    replace C := (show Hid _ from C.out.step hb)
    replace G := (show Hid _ from G.out.trans (hb.mono G.out.size))
    clear hb
    clear Q R
    obtain ⟨j1, e1, l1⟩ := mod_nat cut ka hc.1 (by omega)
    obtain ⟨j2, e2, l2⟩ := mod_nat cut kb hc.1 (by omega)
    obtain ⟨j3, e3, l3⟩ := mod_nat cut kc hc.1 (by omega)
    have f1 : j1 ≤ cka := by omega
    have f2 : j2 ≤ ckb := by omega
    have f3 : j3 ≤ ckc := by omega
    go_wp2_with fail
    refine (readu_no _ _ _ (A.out.cut j1 (by have := Eka.out; omega)) (non_cut (by have := Eka.out; omega))).mono ?_
    rintro e wd ⟨rfl, rfl⟩
    clear A
    go_wp2_with fail
    refine (readi_no _ _ _ (B.out.cut j2 (by have := Ekb.out; omega)) (non_cut (by have := Ekb.out; omega))).mono ?_
    rintro e we ⟨rfl, rfl⟩
    clear B
    go_wp2_with fail
    by_cases hj : j3 < (enc 300).length
    · refine (readb_no _ _ 300 _ (C.out.cut j3 (by have := Ekc.out; omega)) (by rw [List.take_append_of_le_length (by omega)]; exact non_cut hj) (by omega)).mono ?_
      rintro e wf ⟨rfl, rfl⟩
      go_wp2_with fail
      go_ret
      exact ⟨rfl, G.out⟩
    · refine (readb_long _ _ 300 300 _ (C.out.cut j3 (by have := Ekc.out; omega)) (by omega) (front_take (by omega)) (by omega) (Or.inr (by rw [List.length_take]; have := hkc.out; omega))).mono ?_
      rintro e wf ⟨rfl, rfl⟩
      go_wp2_with fail
      go_ret
      exact ⟨rfl, G.out⟩
theorem back_walk0 (a0 a3 : Int) (v u : Value) (qs ms : List Nat) (w : World) (h : Bs w v qs) (hr : Bs w u ms) (hl : qs.length ≤ 140737488351232) (hm : ms.length ≤ 140737488351232) (w0 : (Lit.int .u64 a0).wf = true) (w3 : (Lit.int .u8 a3).wf = true) :
    Calls Try.prog 5 #[.int .u64 a0, v, u, .int .u8 a3] w fun e w' => e = .returned (.bool true) ∧ Below w.heap.size w w' := by
  have hw0 : 0 ≤ a0 ∧ a0 ≤ 18446744073709551615 := by simpa [Lit.wf, IntKind.min, IntKind.max, IntKind.signed, IntKind.bits] using w0
  have hw3 : 0 ≤ a3 ∧ a3 ≤ 255 := by simpa [Lit.wf, IntKind.min, IntKind.max, IntKind.signed, IntKind.bits] using w3
  obtain ⟨n, rfl⟩ : ∃ n : Nat, a0 = (n : Int) := ⟨a0.toNat, by omega⟩
  exact back_walk n v u qs ms a3 w h hr (by omega) hl hm hw3
end Go.Proofs.Ytnchmflbhcdngaa
