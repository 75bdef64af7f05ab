/- The document's long numbers: the contract of Quo. -/
import Derived.Test.YtegooagmlapngaaUg
namespace Go.Proofs.Ytegooagmlapngaa
open Go.RowKit
set_option linter.unusedVariables false

theorem norm_nm (v : Value) (x : Nat) (w : World) (h : Nm w v x) :
    Calls Try.prog 40 #[v] w fun e w' => (∃ u, e = .returned u ∧ Nm w u x) ∧ w' = w := by
  obtain ⟨ds, r, n, rfl⟩ := h
  exact norm_ok v ds w r n.sm
theorem size_md {x s : Nat} (h : IsSize x s) (hx : Md x) : s ≤ 1024 := by
  unfold Md at hx
  rw [pw_two] at hx
  have := isSize_bound h hx
  omega
theorem two_md {k : Nat} (h : k < 1024) : Md (1 * 2 ^ k) := by
  rw [Nat.one_mul]
  exact md_of (k := k + 1) (by rw [Nat.pow_succ]; have := Nat.pow_pos (n := k) (show 0 < 2 by decide); omega) (by omega)
theorem quo_q {x y c q : Nat} (h : x = q * y + c) (hy : 0 < y) : q ≤ x := by
  have := Nat.le_mul_of_pos_right q hy
  omega
theorem cmpN_le {x y : Nat} (h : x ≤ y) : decide (cmpN x y ≤ 0) = true := by
  rcases (show x < y ∨ x = y by omega) with h | rfl
  · rw [cmpN_lt h]; rfl
  · rw [cmpN_eq]; rfl
theorem cmpN_ge {x y : Nat} (h : y ≤ x) : 0 ≤ cmpN x y := by
  rcases (show y < x ∨ y = x by omega) with h | rfl
  · rw [cmpN_gt h]; decide
  · rw [cmpN_eq]; decide
theorem cmpN_bd (x y : Nat) : -1 ≤ cmpN x y ∧ cmpN x y ≤ 1 := by
  unfold cmpN; split
  · omega
  · split <;> omega
theorem cmpN_iff (x y : Nat) : cmpN x y ≤ 0 ↔ x ≤ y := by
  unfold cmpN; split
  · omega
  · split <;> omega
/-- Behind a quotient's rounds. -/
structure Qs (w : World) (a q : Value) (x y k : Nat) (cx qx : Nat) : Prop where
  a : Nm w a cx
  q : Nm w q qx
  e : x = qx * y + cx
  lt : cx < y * 2 ^ k
set_option maxRecDepth 100000 in
set_option maxHeartbeats 1000000 in
theorem lquo_ok (v u : Value) (x y : Nat) (w : World) (h : Nm w v x) (h2 : Nm w u y) (hx : Md x) (hy : Md y) (hy0 : 0 < y) :
    Calls Try.prog 37 #[v, u] w fun e w' => (∃ q r, e = .returned (.tuple #[q, r]) ∧ Nm w' q (x / y) ∧ Nm w' r (x % y)) ∧ Below w.heap.size w w' := by
  have H1 : Hid (Nm w v x) := h
  have H2 : Hid (Nm w u y) := h2
  have HX : Hid (Md x) := hx
  have HY : Hid (Md y) := hy
  clear h h2 hx hy
  go_enter Try.func37, Try.ntmps37
  go_wp2_with fail
  refine (size_ok v x _ H1.out).mono ?_
  rintro e w1 ⟨⟨s, rfl, hs, hs2⟩, rfl⟩
  have HS := (show Hid _ from hs)
  clear hs
  go_wp2_with fail
  refine (size_ok u y _ H2.out).mono ?_
  rintro e w2 ⟨⟨t, rfl, ht, ht2⟩, rfl⟩
  have HT := (show Hid _ from ht)
  clear ht
  by_cases hst : s < t
  · have e1 : Hid (x / y = 0) := Nat.div_eq_of_lt (quo_small HS.out HT.out hst)
    have e2 : Hid (x % y = x) := Nat.mod_eq_of_lt (quo_small HS.out HT.out hst)
    go_wp2_with fail
    refine wp_loop_rounds 1 ?_
    rw [rounds_succ]
    go_wp2_with fail
    refine (norm_nm _ x _ H1.out).mono ?_
    rintro e w3 ⟨⟨r, rfl, hr⟩, rfl⟩
    have HR := (show Hid _ from hr)
    clear hr
    go_wp2_with fail
    refine bodyPost_ret (v := .tuple #[.slice none 0 0, r]) (by simp [results, Try.results37, go_sem]) rfl ⟨⟨_, _, rfl, ?_, ?_⟩, Below.refl _ _⟩
    · rw [e1.out]; exact nm_nil _
    · rw [e2.out]; exact HR.out
  · have ht0 : 0 < t := by
      by_cases e : t = 0
      · subst e; have := HT.out.hi; simp at this; omega
      · omega
    have hs1024 := size_md HS.out HX.out
    have hst2 := (show Hid _ from quo_start HS.out HT.out hy0 (by omega))
    go_wp2_with fail
    go_loopw [0, 6, 7] (fun a q i wr => ∃ k : Nat, k ≤ 1024 ∧ i = .int .i64 ((k : Int) - 1) ∧ Below w2.heap.size w2 wr ∧ Hid (∃ cx qx, Qs wr a q x y k cx qx)) (fun _ _ i _ => (intOf i + 1).toNat)
    case atStart => exact ⟨s - t + 1, by omega, by go_num, Below.refl _ _, x, 0, H1.out, nm_nil _, by omega, hst2.out⟩
    case round =>
      obtain ⟨k, hk, rfl, hbel, hqs⟩ := hrel
      obtain ⟨cx, qx, Q1⟩ := hqs.out
      have HQ := (show Hid _ from Q1)
      clear hqs Q1
      by_cases h0 : k = 0
      · subst h0
        obtain ⟨e1, e2⟩ := quo_end HQ.out.e (by have := HQ.out.lt; simpa using this)
        go_wp2_with fail
        refine (norm_nm _ cx _ HQ.out.a).mono ?_
        rintro e w3 ⟨⟨r, rfl, hr⟩, rfl⟩
        have HR := (show Hid _ from hr)
        have HQ2 := (show Hid _ from HQ.out.q)
        rw [e1] at HQ2
        rw [e2] at HR
        clear hr HQ e1 e2
        go_wp2_with fail
        refine bodyPost_ret (v := .tuple #[_, r]) (by simp [results, Try.results37, go_sem]) rfl ⟨⟨_, _, rfl, HQ2.out, HR.out⟩, hbel⟩
      · obtain ⟨j, rfl⟩ : ∃ j, k = j + 1 := ⟨k - 1, by omega⟩
        rw [show ((j + 1 : Nat) : Int) - 1 = (j : Int) by omega]
        go_wp2_with fail
        refine (left_ok u y j _ (H2.out.step hbel) HY.out (by omega)).mono ?_
        rintro e w3 ⟨⟨t', rfl, hn⟩, hb⟩
        have HT' := (show Hid _ from hn)
        have HA := (show Hid _ from HQ.out.a.step hb)
        have HQq := (show Hid _ from HQ.out.q.step hb)
        have hbel := hbel.trans (hb.mono hbel.size)
        clear hn hb
        go_wp2_with fail
        refine (compare_ok _ _ _ _ _ HT'.out HA.out).mono ?_
        rintro e w4 ⟨rfl, hb⟩
        have HT' := (show Hid _ from HT'.out.step hb)
        have HA := (show Hid _ from HA.out.step hb)
        have HQq := (show Hid _ from HQq.out.step hb)
        have hbel := hbel.trans (hb.mono hbel.size)
        clear hb
        have hcm := cmpN_iff (y * 2 ^ j) cx
        have hcb := cmpN_bd (y * 2 ^ j) cx
        by_cases hle : y * 2 ^ j ≤ cx
        · have hc2 := hcm.2 hle
          obtain ⟨g1, g2⟩ := quo_yes HQ.out.e HQ.out.lt hle
          have G1 := (show Hid _ from g1)
          have G2 := (show Hid _ from g2)
          have HLE := (show Hid _ from hle)
          have hq1 := quo_q HQ.out.e hy0
          have HQX : Hid (Md qx) := md_le HX.out hq1
          clear g1 g2 hle hcm hq1
          generalize cmpN (y * 2 ^ j) cx = cc at *
          go_wp2_with fail
          refine (minus_ok _ _ _ _ _ HA.out HT'.out HLE.out).mono ?_
          rintro e w5 ⟨⟨a', rfl, hn⟩, hb⟩
          have HA' := (show Hid _ from hn)
          have HQq := (show Hid _ from HQq.out.step hb)
          have hbel := hbel.trans (hb.mono hbel.size)
          clear hn hb HT' HA
          go_wp2_with fail
          refine (word_ok 1 _ (by omega) (by omega)).mono ?_
          rintro e w6 ⟨⟨o, rfl, hn⟩, hb⟩
          have HO := (show Hid _ from hn)
          have HA' := (show Hid _ from HA'.out.step hb)
          have HQq := (show Hid _ from HQq.out.step hb)
          have hbel := hbel.trans (hb.mono hbel.size)
          clear hn hb
          go_wp2_with fail
          refine (left_ok _ 1 j _ HO.out (md_of (k := 1) (by decide) (by omega)) (by omega)).mono ?_
          rintro e w7 ⟨⟨o', rfl, hn⟩, hb⟩
          have HO' := (show Hid _ from hn)
          have HA' := (show Hid _ from HA'.out.step hb)
          have HQq := (show Hid _ from HQq.out.step hb)
          have hbel := hbel.trans (hb.mono hbel.size)
          clear hn hb HO
          go_wp2_with fail
          refine (plus_ok _ _ _ _ _ HQq.out HO'.out HQX.out (two_md (by omega))).mono ?_
          rintro e w8 ⟨⟨q', rfl, hn⟩, hb⟩
          have HF : Hid (∃ cx qx, Qs w8 a' q' x y j cx qx) := ⟨_, _, HA'.out.step hb, hn, by rw [Nat.one_mul]; exact G1.out, G2.out⟩
          have hbel := hbel.trans (hb.mono hbel.size)
          clear hn hb HO' HA' HQq G1 G2 HQX
          go_wp2_with fail
          exact ⟨⟨j, by omega, rfl, hbel, HF⟩, by simp [intOf]⟩
        · have hc2 : ¬ cmpN (y * 2 ^ j) cx ≤ 0 := fun h => hle (hcm.1 h)
          have HF := (show Hid (∃ cx qx, Qs _ _ _ x y j cx qx) from ⟨cx, qx, HA.out, HQq.out, HQ.out.e, by omega⟩)
          clear hcm hle HQ HA HQq HT'
          generalize cmpN (y * 2 ^ j) cx = cc at *
          go_wp2_with fail
          exact ⟨⟨j, by omega, rfl, hbel, HF⟩, by simp [intOf]⟩
end Go.Proofs.Ytegooagmlapngaa
