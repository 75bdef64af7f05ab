/- money's sort: the merge (slices.symMergeCmpFunc). -/
import Derived.Test.YtbgglghapjfdeaaDoorSse
import Derived.Deep.CutBlock
namespace Go.Proofs.YtbgglghapjfdeaaDoor
open Go.RowKit
set_option linter.unusedVariables false

/-- merges of at most N elements are right -/
def SymS (q n bx : Nat) (R : Nat → Nat) (C : World → Prop) (N : Nat) : Prop := ∀ (a m b : Nat) (f : Nat → Nat) (w : World), b - a ≤ N → VA w q (row f n) 3 → C w → a < m → m < b → b ≤ n → (∀ x, x < n → f x < n) → Srt R f a m → Srt R f m b → (∀ x y, a ≤ x → x < m → m ≤ y → y < b → f x < f y) →
    Calls Tryd.prog 56 #[.slice (some ⟨q, 0, none⟩) n n, .int .i64 (a : Int), .int .i64 (m : Int), .int .i64 (b : Int), .func (.func 44) #[] #[.pointer (some ⟨bx, 0, none⟩)]] w fun e w' => e = .returned (.tuple #[]) ∧ ∃ g, VA w' q (row g n) 3 ∧ Pm f g a b ∧ Srt R g a b ∧ Qx q w w'
/-- where the search goes from and to -/
structure LH (a m b nn lo hi : Nat) : Prop where
  l1 : a ≤ lo
  l2 : lo ≤ hi
  l3 : hi ≤ m
  l4 : nn ≤ lo + b
  l5 : m + hi ≤ nn
  l6 : lo = a ∨ nn = lo + b
  l7 : hi = m ∨ nn = hi + m
set_option maxHeartbeats 8000000 in
set_option maxRecDepth 100000 in
theorem sym_mid (q n bx a m b : Nat) (R f : Nat → Nat) (C : World → Prop) (KC : Cmpr q n bx R C) (w : World) (V : VA w q (row f n) 3) (hC : C w) (h1 : a < m) (h2 : m < b) (h4 : b ≤ n) (h3 : n ≤ 1000000) (B : ∀ x, x < n → f x < n) (S1 : Srt R f a m) (S2 : Srt R f m b) (L : ∀ x y, a ≤ x → x < m → m ≤ y → y < b → f x < f y) (N : Nat) (IH : SymS q n bx R C N) (hN : b - a ≤ N + 1) (hm : m ≠ a + 1) (hb : b ≠ m + 1) :
    Calls Tryd.prog 56 #[.slice (some ⟨q, 0, none⟩) n n, .int .i64 (a : Int), .int .i64 (m : Int), .int .i64 (b : Int), .func (.func 44) #[] #[.pointer (some ⟨bx, 0, none⟩)]] w fun e w' => e = .returned (.tuple #[]) ∧ ∃ g, VA w' q (row g n) 3 ∧ Pm f g a b ∧ Srt R g a b ∧ Qx q w w' := by
  have HV0 := (show Hid _ from V)
  have HKC := (show Hid _ from KC)
  have HC := (show Hid _ from hC)
  have HBF := (show Hid _ from B)
  have HS1 := (show Hid _ from S1)
  have HS2 := (show Hid _ from S2)
  have HL := (show Hid _ from L)
  clear V KC hC B S1 S2 L
  have HIH : Hid (SymS q n bx R C N) := IH
  clear IH
  have e0 : (((m : Int) - (a : Int)) == 1) = false := by simp; omega
  have e1 : (((b : Int) - (m : Int)) == 1) = false := by simp; omega
  obtain ⟨mid, hmid⟩ : ∃ k : Nat, ((a : Int) + (b : Int)) / 2 = (k : Int) := ⟨(a + b) / 2, by omega⟩
  have HMD : Hid (2 * mid ≤ a + b ∧ a + b ≤ 2 * mid + 1) := by show _ ∧ _; omega
  have HMID := (show Hid _ from hmid)
  obtain ⟨nn, hnn⟩ : ∃ k : Nat, (mid : Int) + (m : Int) = (k : Int) := ⟨mid + m, by omega⟩
  have HNE : Hid (nn = mid + m) := by show _ = _; omega
  have HNN := (show Hid _ from hnn)
  have HMB : Hid (nn ≤ 2000000) := by show _ ≤ _; omega
  have nn1 : (nn : Int) ≤ 2000000 := by omega
  have mid1 : (mid : Int) ≤ 1000000 := by omega
  clear hmid hnn hm hb
  go_enter Tryd.func56, Tryd.ntmps56
  go_upto_region 25 with fail
  rw [HMID.out]
  go_upto_region 26 with fail
  rw [HNN.out]
  go_upto_if 140 with fail
  go_cut [20, 21] (fun s20 s21 wx => ∃ lo hi : Nat, s20 = .int .i64 (lo : Int) ∧ s21 = .int .i64 (hi : Int) ∧ Hid (LH a m b nn lo hi) ∧ Hid (VA wx q (row f n) 3) ∧ Hid (Qx q w wx))
  case first =>
    by_cases c0 : (mid : Int) < (m : Int)
    · go_wp2_with fail
      go_meet
      have := HMD.out; have := HNE.out
      exact ⟨nn - b, mid, by go_num, rfl, ⟨by omega, by omega, by omega, by omega, by omega, Or.inr (by omega), Or.inr (by omega)⟩, HV0.out, Qx.refl _ _⟩
    · have c0' : (m : Int) ≤ (mid : Int) := by omega
      clear c0
      go_wp2_with fail
      go_meet
      have := HMD.out; have := HNE.out
      exact ⟨a, m, rfl, rfl, ⟨by omega, by omega, by omega, by omega, by omega, Or.inl rfl, Or.inl rfl⟩, HV0.out, Qx.refl _ _⟩
  clear HV0
  obtain ⟨lo, hi, rfl, rfl, HLH, HV, HU⟩ := hcut
  go_wp2_with fail
  go_loopw [20, 21] (fun s20 s21 wr => ∃ s r : Nat, lo ≤ s ∧ s ≤ r ∧ r ≤ hi ∧ s20 = .int .i64 (s : Int) ∧ s21 = .int .i64 (r : Int) ∧ Hid (lo < s → bf R (f (s - 1)) (f (nn - s))) ∧ Hid (r < hi → bf R (f (nn - 1 - r)) (f r)) ∧ Hid (VA wr q (row f n) 3) ∧ Hid (Qx q w wr)) (fun s20 s21 _ => (intOf s21).toNat - (intOf s20).toNat)
  case atStart => exact ⟨lo, hi, Nat.le_refl _, HLH.out.l2, Nat.le_refl _, rfl, rfl, fun h => absurd h (Nat.lt_irrefl _), fun h => absurd h (Nat.lt_irrefl _), HV.out, HU.out⟩
  case round =>
    obtain ⟨s, r, hs1, hsr, hr1, rfl, rfl, HP1, HP2, HV', HU'⟩ := hrel
    clear HV HU
    have HV := HV'
    have HU := HU'
    clear HV' HU'
    by_cases hrs : (r : Int) ≤ (s : Int)
    · obtain rfl : s = r := by omega
      clear hrs
      obtain ⟨e, he⟩ : ∃ e : Nat, (nn : Int) - (s : Int) = (e : Int) := ⟨nn - s, by have := HLH.out.l3; have := HLH.out.l5; omega⟩
      have HE := (show Hid _ from he)
      have HEF : Hid (a ≤ s ∧ s ≤ m ∧ m ≤ e ∧ e ≤ b ∧ s + e = mid + m ∧ nn - s = e) := by
        have := HLH.out.l1; have := HLH.out.l3; have := HLH.out.l4; have := HLH.out.l5; have := HNE.out
        exact ⟨by omega, by omega, by omega, by omega, by omega, by omega⟩
      have HHAL : Hid (Hal R (rot f s m e) a s mid e b) := by
        obtain ⟨i1, i2, i3, i4, i5, i6⟩ := HEF.out
        refine rot_hal i1 i2 i3 i4 i5 HS1.out HS2.out HL.out (fun x1 x2 => ?_) (fun x1 x2 => ?_)
        · have := HP1.out (by rcases HLH.out.l6 with h | h <;> omega)
          rwa [i6] at this
        · have := HP2.out (by rcases HLH.out.l7 with h | h <;> omega)
          rwa [show nn - 1 - s = e - 1 by omega] at this
      have HPG : Hid (Pm f (rot f s m e) a b) := by
        obtain ⟨i1, i2, i3, i4, i5, i6⟩ := HEF.out
        exact (rot_pm f i2 i3).wide i1 i4
      have HBG : Hid (∀ x, x < n → rot f s m e x < n) := fun x hx => (HPG.out.wide (Nat.zero_le _) h4).all (P := fun v => v < n) (fun x _ h => HBF.out x h) x (Nat.zero_le _) hx
      have HN := (show Hid _ from hN)
      have e3 : (e : Int) ≤ 1000000 := by have := HEF.out; omega
      have e4 : (s : Int) ≤ 1000000 := by have := HEF.out; omega
      clear he HP1 HP2 HLH hs1 hr1 hN
      go_upto_region 39 with fail
      rw [HE.out]
      by_cases cA : s < m
      · by_cases cB : m < e
        · by_cases cC : a < s
          · by_cases cD : e < b
            · have f1 : (s : Int) < (m : Int) := by omega
              have f2 : (mid : Int) < (e : Int) := by have := HEF.out; omega
              have f3 : (m : Int) < (e : Int) := by omega
              have f4 : (s : Int) < (mid : Int) := by have := HEF.out; omega
              have f5 : (a : Int) < (s : Int) := by omega
              have f6 : (e : Int) < (b : Int) := by omega
              go_wp2_with fail
              refine (rotc_ok q n s m e f _ _ HV.out (by omega) (by omega) (by have := HEF.out; omega) h3).mono ?_
              rintro ee w1 ⟨rfl, v1, u1⟩
              have HVa := (show Hid _ from v1)
              have HUa := (show Hid _ from HU.out.trans u1)
              clear v1 u1
              go_wp2_with fail
              refine (HIH.out a s mid _ _ (by have := HN.out; have := HMD.out; omega) HVa.out (HKC.out.keep _ _ HC.out HUa.out) (by omega) (by omega) (by have := HMD.out; omega) HBG.out HHAL.out.s1 HHAL.out.s2 HHAL.out.l1).mono ?_
              rintro ee w2 ⟨rfl, g1, v1, p1, s1, u1⟩
              have HVb := (show Hid _ from v1)
              have HQ1 := (show Hid _ from p1)
              have HT1 : Hid (Srt R g1 a mid) := s1
              have HUb := (show Hid _ from HUa.out.trans u1)
              clear v1 p1 s1 u1
              go_wp2_with fail
              have HG1 : Hid (∀ x, mid ≤ x → g1 x = rot f s m e x) := fun x hx => HQ1.out.out x (Or.inr hx)
              have HBH : Hid (∀ x, x < n → g1 x < n) := fun x hx => (HQ1.out.wide (Nat.zero_le _) (by have := HMD.out; omega)).all (P := fun v => v < n) (fun x _ h => HBG.out x h) x (Nat.zero_le _) hx
              refine (HIH.out mid e b g1 _ (by have := HN.out; have := HMD.out; omega) HVb.out (HKC.out.keep _ _ HC.out HUb.out) (by omega) (by omega) h4 HBH.out ?_ ?_ ?_).mono ?_
              · intro x y x1 x2 x3; rw [HG1.out x x1, HG1.out y (by omega)]; exact HHAL.out.s3 x y x1 x2 x3
              · intro x y x1 x2 x3; rw [HG1.out x (by omega), HG1.out y (by omega)]; exact HHAL.out.s4 x y x1 x2 x3
              · intro x y x1 x2 x3 x4; rw [HG1.out x x1, HG1.out y (by omega)]; exact HHAL.out.l2 x y x1 x2 x3 x4
              rintro ee w3 ⟨rfl, g2, v1, p1, s1, u1⟩
              have HVc := (show Hid _ from v1)
              have HUc := (show Hid _ from HUb.out.trans u1)
              have J := srt_join (by have := HMD.out; omega) (by have := HMD.out; omega) HHAL.out.half HQ1.out HT1.out p1 s1
              have HJ : Hid (Srt R g2 a b ∧ Pm (rot f s m e) g2 a b) := J
              clear v1 p1 s1 u1 J
              go_wp2_with fail
              refine bodyPost_end (v := .tuple #[]) (by simp [results, Tryd.results56, go_sem]) rfl ⟨rfl, g2, HVc.out, HPG.out.trans HJ.out.2, HJ.out.1, HUc.out⟩
            · have f1 : (s : Int) < (m : Int) := by omega
              have f2 : (mid : Int) < (e : Int) := by have := HEF.out; omega
              have f3 : (m : Int) < (e : Int) := by omega
              have f4 : (s : Int) < (mid : Int) := by have := HEF.out; omega
              have f5 : (a : Int) < (s : Int) := by omega
              have f6 : (b : Int) ≤ (e : Int) := by omega
              go_wp2_with fail
              refine (rotc_ok q n s m e f _ _ HV.out (by omega) (by omega) (by have := HEF.out; omega) h3).mono ?_
              rintro ee w1 ⟨rfl, v1, u1⟩
              have HVa := (show Hid _ from v1)
              have HUa := (show Hid _ from HU.out.trans u1)
              clear v1 u1
              go_wp2_with fail
              refine (HIH.out a s mid _ _ (by have := HN.out; have := HMD.out; omega) HVa.out (HKC.out.keep _ _ HC.out HUa.out) (by omega) (by omega) (by have := HMD.out; omega) HBG.out HHAL.out.s1 HHAL.out.s2 HHAL.out.l1).mono ?_
              rintro ee w2 ⟨rfl, g1, v1, p1, s1, u1⟩
              have HVb := (show Hid _ from v1)
              have HQ1 := (show Hid _ from p1)
              have HT1 : Hid (Srt R g1 a mid) := s1
              have HUb := (show Hid _ from HUa.out.trans u1)
              clear v1 p1 s1 u1
              go_wp2_with fail
              have HG1 : Hid (∀ x, mid ≤ x → g1 x = rot f s m e x) := fun x hx => HQ1.out.out x (Or.inr hx)
              have hj : Srt R g1 mid b := by
                intro x y x1 x2 x3
                rw [HG1.out x x1, HG1.out y (by omega)]
                have := HEF.out
                exact HHAL.out.s3 x y x1 x2 (by omega)
              have J := srt_join (by have := HMD.out; omega) (by have := HMD.out; omega) HHAL.out.half HQ1.out HT1.out (Pm.refl g1 mid b) hj
              refine bodyPost_end (v := .tuple #[]) (by simp [results, Tryd.results56, go_sem]) rfl ⟨rfl, g1, HVb.out, HPG.out.trans J.2, J.1, HUb.out⟩
          · by_cases cD : e < b
            · have f1 : (s : Int) < (m : Int) := by omega
              have f2 : (mid : Int) < (e : Int) := by have := HEF.out; omega
              have f3 : (m : Int) < (e : Int) := by omega
              have f4 : (s : Int) < (mid : Int) := by have := HEF.out; omega
              have f5 : (s : Int) ≤ (a : Int) := by omega
              have f6 : (e : Int) < (b : Int) := by omega
              go_wp2_with fail
              refine (rotc_ok q n s m e f _ _ HV.out (by omega) (by omega) (by have := HEF.out; omega) h3).mono ?_
              rintro ee w1 ⟨rfl, v1, u1⟩
              have HVa := (show Hid _ from v1)
              have HUa := (show Hid _ from HU.out.trans u1)
              clear v1 u1
              go_wp2_with fail
              have HVb := HVa
              have HUb := HUa
              have HQ1 : Hid (Pm (rot f s m e) (rot f s m e) a mid) := Pm.refl _ _ _
              have HT1 : Hid (Srt R (rot f s m e) a mid) := by
                have hs := HHAL.out.s2
                show Srt _ _ _ _
                have e5 : a = s := by have := HEF.out; omega
                have hs3 : Srt R (rot f s m e) s mid := hs
                intro x y x1 x2 x3
                exact hs3 x y (by omega) x2 x3
              have HG1 : Hid (∀ x, mid ≤ x → (rot f s m e) x = rot f s m e x) := fun x hx => HQ1.out.out x (Or.inr hx)
              have HBH : Hid (∀ x, x < n → (rot f s m e) x < n) := fun x hx => (HQ1.out.wide (Nat.zero_le _) (by have := HMD.out; omega)).all (P := fun v => v < n) (fun x _ h => HBG.out x h) x (Nat.zero_le _) hx
              refine (HIH.out mid e b (rot f s m e) _ (by have := HN.out; have := HMD.out; omega) HVb.out (HKC.out.keep _ _ HC.out HUb.out) (by omega) (by omega) h4 HBH.out ?_ ?_ ?_).mono ?_
              · intro x y x1 x2 x3; rw [HG1.out x x1, HG1.out y (by omega)]; exact HHAL.out.s3 x y x1 x2 x3
              · intro x y x1 x2 x3; rw [HG1.out x (by omega), HG1.out y (by omega)]; exact HHAL.out.s4 x y x1 x2 x3
              · intro x y x1 x2 x3 x4; rw [HG1.out x x1, HG1.out y (by omega)]; exact HHAL.out.l2 x y x1 x2 x3 x4
              rintro ee w3 ⟨rfl, g2, v1, p1, s1, u1⟩
              have HVc := (show Hid _ from v1)
              have HUc := (show Hid _ from HUb.out.trans u1)
              have J := srt_join (by have := HMD.out; omega) (by have := HMD.out; omega) HHAL.out.half HQ1.out HT1.out p1 s1
              have HJ : Hid (Srt R g2 a b ∧ Pm (rot f s m e) g2 a b) := J
              clear v1 p1 s1 u1 J
              go_wp2_with fail
              refine bodyPost_end (v := .tuple #[]) (by simp [results, Tryd.results56, go_sem]) rfl ⟨rfl, g2, HVc.out, HPG.out.trans HJ.out.2, HJ.out.1, HUc.out⟩
            · have f1 : (s : Int) < (m : Int) := by omega
              have f2 : (mid : Int) < (e : Int) := by have := HEF.out; omega
              have f3 : (m : Int) < (e : Int) := by omega
              have f4 : (s : Int) < (mid : Int) := by have := HEF.out; omega
              have f5 : (s : Int) ≤ (a : Int) := by omega
              have f6 : (b : Int) ≤ (e : Int) := by omega
              go_wp2_with fail
              refine (rotc_ok q n s m e f _ _ HV.out (by omega) (by omega) (by have := HEF.out; omega) h3).mono ?_
              rintro ee w1 ⟨rfl, v1, u1⟩
              have HVa := (show Hid _ from v1)
              have HUa := (show Hid _ from HU.out.trans u1)
              clear v1 u1
              go_wp2_with fail
              have HVb := HVa
              have HUb := HUa
              have HQ1 : Hid (Pm (rot f s m e) (rot f s m e) a mid) := Pm.refl _ _ _
              have HT1 : Hid (Srt R (rot f s m e) a mid) := by
                have hs := HHAL.out.s2
                show Srt _ _ _ _
                have e5 : a = s := by have := HEF.out; omega
                have hs3 : Srt R (rot f s m e) s mid := hs
                intro x y x1 x2 x3
                exact hs3 x y (by omega) x2 x3
              have HG1 : Hid (∀ x, mid ≤ x → (rot f s m e) x = rot f s m e x) := fun x hx => HQ1.out.out x (Or.inr hx)
              have hj : Srt R (rot f s m e) mid b := by
                intro x y x1 x2 x3
                rw [HG1.out x x1, HG1.out y (by omega)]
                have := HEF.out
                exact HHAL.out.s3 x y x1 x2 (by omega)
              have J := srt_join (by have := HMD.out; omega) (by have := HMD.out; omega) HHAL.out.half HQ1.out HT1.out (Pm.refl (rot f s m e) mid b) hj
              refine bodyPost_end (v := .tuple #[]) (by simp [results, Tryd.results56, go_sem]) rfl ⟨rfl, (rot f s m e), HVb.out, HPG.out.trans J.2, J.1, HUb.out⟩
        · by_cases cC : a < s
          · by_cases cD : e < b
            · have f1 : (s : Int) < (m : Int) := by omega
              have f2 : (mid : Int) < (e : Int) := by have := HEF.out; omega
              have f3 : (e : Int) ≤ (m : Int) := by omega
              have f4 : (mid : Int) ≤ (s : Int) := by have := HEF.out; omega
              have f5 : (a : Int) < (s : Int) := by omega
              have f6 : (e : Int) < (b : Int) := by omega
              go_wp2_with fail
              have hr : rot f s m e = f := by
                rw [show m = e by have := HEF.out; omega]; exact rot_none2 f s e
              have HVa : Hid (VA wr q (row (rot f s m e) n) 3) := by rw [hr]; exact HV.out
              have HUa := HU
              clear hr
              have HVb := HVa
              have HUb := HUa
              have HQ1 : Hid (Pm (rot f s m e) (rot f s m e) a mid) := Pm.refl _ _ _
              have HT1 : Hid (Srt R (rot f s m e) a mid) := by
                have hs : Srt R (rot f s m e) a s := HHAL.out.s1
                have e5 : s = mid := by have := HEF.out; omega
                intro x y x1 x2 x3
                exact hs x y x1 x2 (by omega)
              have HG1 : Hid (∀ x, mid ≤ x → (rot f s m e) x = rot f s m e x) := fun x hx => HQ1.out.out x (Or.inr hx)
              have HBH : Hid (∀ x, x < n → (rot f s m e) x < n) := fun x hx => (HQ1.out.wide (Nat.zero_le _) (by have := HMD.out; omega)).all (P := fun v => v < n) (fun x _ h => HBG.out x h) x (Nat.zero_le _) hx
              refine (HIH.out mid e b (rot f s m e) _ (by have := HN.out; have := HMD.out; omega) HVb.out (HKC.out.keep _ _ HC.out HUb.out) (by omega) (by omega) h4 HBH.out ?_ ?_ ?_).mono ?_
              · intro x y x1 x2 x3; rw [HG1.out x x1, HG1.out y (by omega)]; exact HHAL.out.s3 x y x1 x2 x3
              · intro x y x1 x2 x3; rw [HG1.out x (by omega), HG1.out y (by omega)]; exact HHAL.out.s4 x y x1 x2 x3
              · intro x y x1 x2 x3 x4; rw [HG1.out x x1, HG1.out y (by omega)]; exact HHAL.out.l2 x y x1 x2 x3 x4
              rintro ee w3 ⟨rfl, g2, v1, p1, s1, u1⟩
              have HVc := (show Hid _ from v1)
              have HUc := (show Hid _ from HUb.out.trans u1)
              have J := srt_join (by have := HMD.out; omega) (by have := HMD.out; omega) HHAL.out.half HQ1.out HT1.out p1 s1
              have HJ : Hid (Srt R g2 a b ∧ Pm (rot f s m e) g2 a b) := J
              clear v1 p1 s1 u1 J
              go_wp2_with fail
              refine bodyPost_end (v := .tuple #[]) (by simp [results, Tryd.results56, go_sem]) rfl ⟨rfl, g2, HVc.out, HPG.out.trans HJ.out.2, HJ.out.1, HUc.out⟩
            · exfalso; have := HEF.out; omega
          · by_cases cD : e < b
            · have f1 : (s : Int) < (m : Int) := by omega
              have f2 : (mid : Int) < (e : Int) := by have := HEF.out; omega
              have f3 : (e : Int) ≤ (m : Int) := by omega
              have f4 : (mid : Int) ≤ (s : Int) := by have := HEF.out; omega
              have f5 : (s : Int) ≤ (a : Int) := by omega
              have f6 : (e : Int) < (b : Int) := by omega
              go_wp2_with fail
              have hr : rot f s m e = f := by
                rw [show m = e by have := HEF.out; omega]; exact rot_none2 f s e
              have HVa : Hid (VA wr q (row (rot f s m e) n) 3) := by rw [hr]; exact HV.out
              have HUa := HU
              clear hr
              have HVb := HVa
              have HUb := HUa
              have HQ1 : Hid (Pm (rot f s m e) (rot f s m e) a mid) := Pm.refl _ _ _
              have HT1 : Hid (Srt R (rot f s m e) a mid) := by
                have hs := HHAL.out.s2
                show Srt _ _ _ _
                have e5 : a = s := by have := HEF.out; omega
                have hs3 : Srt R (rot f s m e) s mid := hs
                intro x y x1 x2 x3
                exact hs3 x y (by omega) x2 x3
              have HG1 : Hid (∀ x, mid ≤ x → (rot f s m e) x = rot f s m e x) := fun x hx => HQ1.out.out x (Or.inr hx)
              have HBH : Hid (∀ x, x < n → (rot f s m e) x < n) := fun x hx => (HQ1.out.wide (Nat.zero_le _) (by have := HMD.out; omega)).all (P := fun v => v < n) (fun x _ h => HBG.out x h) x (Nat.zero_le _) hx
              refine (HIH.out mid e b (rot f s m e) _ (by have := HN.out; have := HMD.out; omega) HVb.out (HKC.out.keep _ _ HC.out HUb.out) (by omega) (by omega) h4 HBH.out ?_ ?_ ?_).mono ?_
              · intro x y x1 x2 x3; rw [HG1.out x x1, HG1.out y (by omega)]; exact HHAL.out.s3 x y x1 x2 x3
              · intro x y x1 x2 x3; rw [HG1.out x (by omega), HG1.out y (by omega)]; exact HHAL.out.s4 x y x1 x2 x3
              · intro x y x1 x2 x3 x4; rw [HG1.out x x1, HG1.out y (by omega)]; exact HHAL.out.l2 x y x1 x2 x3 x4
              rintro ee w3 ⟨rfl, g2, v1, p1, s1, u1⟩
              have HVc := (show Hid _ from v1)
              have HUc := (show Hid _ from HUb.out.trans u1)
              have J := srt_join (by have := HMD.out; omega) (by have := HMD.out; omega) HHAL.out.half HQ1.out HT1.out p1 s1
              have HJ : Hid (Srt R g2 a b ∧ Pm (rot f s m e) g2 a b) := J
              clear v1 p1 s1 u1 J
              go_wp2_with fail
              refine bodyPost_end (v := .tuple #[]) (by simp [results, Tryd.results56, go_sem]) rfl ⟨rfl, g2, HVc.out, HPG.out.trans HJ.out.2, HJ.out.1, HUc.out⟩
            · exfalso; have := HEF.out; omega
      · by_cases cB : m < e
        · by_cases cC : a < s
          · by_cases cD : e < b
            · have f1 : (m : Int) ≤ (s : Int) := by omega
              have f2 : (e : Int) ≤ (mid : Int) := by have := HEF.out; omega
              have f3 : (m : Int) < (e : Int) := by omega
              have f4 : (s : Int) < (mid : Int) := by have := HEF.out; omega
              have f5 : (a : Int) < (s : Int) := by omega
              have f6 : (e : Int) < (b : Int) := by omega
              go_wp2_with fail
              have hr : rot f s m e = f := by
                rw [show s = m by have := HEF.out; omega]; exact rot_none1 f m e
              have HVa : Hid (VA wr q (row (rot f s m e) n) 3) := by rw [hr]; exact HV.out
              have HUa := HU
              clear hr
              refine (HIH.out a s mid _ _ (by have := HN.out; have := HMD.out; omega) HVa.out (HKC.out.keep _ _ HC.out HUa.out) (by omega) (by omega) (by have := HMD.out; omega) HBG.out HHAL.out.s1 HHAL.out.s2 HHAL.out.l1).mono ?_
              rintro ee w2 ⟨rfl, g1, v1, p1, s1, u1⟩
              have HVb := (show Hid _ from v1)
              have HQ1 := (show Hid _ from p1)
              have HT1 : Hid (Srt R g1 a mid) := s1
              have HUb := (show Hid _ from HUa.out.trans u1)
              clear v1 p1 s1 u1
              go_wp2_with fail
              have HG1 : Hid (∀ x, mid ≤ x → g1 x = rot f s m e x) := fun x hx => HQ1.out.out x (Or.inr hx)
              have hj : Srt R g1 mid b := by
                intro x y x1 x2 x3
                rw [HG1.out x x1, HG1.out y (by omega)]
                have := HEF.out
                exact HHAL.out.s4 x y (by omega) x2 x3
              have J := srt_join (by have := HMD.out; omega) (by have := HMD.out; omega) HHAL.out.half HQ1.out HT1.out (Pm.refl g1 mid b) hj
              refine bodyPost_end (v := .tuple #[]) (by simp [results, Tryd.results56, go_sem]) rfl ⟨rfl, g1, HVb.out, HPG.out.trans J.2, J.1, HUb.out⟩
            · have f1 : (m : Int) ≤ (s : Int) := by omega
              have f2 : (e : Int) ≤ (mid : Int) := by have := HEF.out; omega
              have f3 : (m : Int) < (e : Int) := by omega
              have f4 : (s : Int) < (mid : Int) := by have := HEF.out; omega
              have f5 : (a : Int) < (s : Int) := by omega
              have f6 : (b : Int) ≤ (e : Int) := by omega
              go_wp2_with fail
              have hr : rot f s m e = f := by
                rw [show s = m by have := HEF.out; omega]; exact rot_none1 f m e
              have HVa : Hid (VA wr q (row (rot f s m e) n) 3) := by rw [hr]; exact HV.out
              have HUa := HU
              clear hr
              refine (HIH.out a s mid _ _ (by have := HN.out; have := HMD.out; omega) HVa.out (HKC.out.keep _ _ HC.out HUa.out) (by omega) (by omega) (by have := HMD.out; omega) HBG.out HHAL.out.s1 HHAL.out.s2 HHAL.out.l1).mono ?_
              rintro ee w2 ⟨rfl, g1, v1, p1, s1, u1⟩
              have HVb := (show Hid _ from v1)
              have HQ1 := (show Hid _ from p1)
              have HT1 : Hid (Srt R g1 a mid) := s1
              have HUb := (show Hid _ from HUa.out.trans u1)
              clear v1 p1 s1 u1
              go_wp2_with fail
              have HG1 : Hid (∀ x, mid ≤ x → g1 x = rot f s m e x) := fun x hx => HQ1.out.out x (Or.inr hx)
              have hj : Srt R g1 mid b := by
                intro x y x1 x2 x3
                rw [HG1.out x x1, HG1.out y (by omega)]
                have := HEF.out
                exact HHAL.out.s4 x y (by omega) x2 x3
              have J := srt_join (by have := HMD.out; omega) (by have := HMD.out; omega) HHAL.out.half HQ1.out HT1.out (Pm.refl g1 mid b) hj
              refine bodyPost_end (v := .tuple #[]) (by simp [results, Tryd.results56, go_sem]) rfl ⟨rfl, g1, HVb.out, HPG.out.trans J.2, J.1, HUb.out⟩
          · by_cases cD : e < b
            · exfalso; have := HEF.out; omega
            · exfalso; have := HEF.out; omega
        · by_cases cC : a < s
          · by_cases cD : e < b
            · have f1 : (m : Int) ≤ (s : Int) := by omega
              have f2 : (e : Int) ≤ (mid : Int) := by have := HEF.out; omega
              have f3 : (e : Int) ≤ (m : Int) := by omega
              have f4 : (mid : Int) ≤ (s : Int) := by have := HEF.out; omega
              have f5 : (a : Int) < (s : Int) := by omega
              have f6 : (e : Int) < (b : Int) := by omega
              go_wp2_with fail
              have hr : rot f s m e = f := by
                rw [show s = m by have := HEF.out; omega]; exact rot_none1 f m e
              have HVa : Hid (VA wr q (row (rot f s m e) n) 3) := by rw [hr]; exact HV.out
              have HUa := HU
              clear hr
              have HVb := HVa
              have HUb := HUa
              have HQ1 : Hid (Pm (rot f s m e) (rot f s m e) a mid) := Pm.refl _ _ _
              have HT1 : Hid (Srt R (rot f s m e) a mid) := by
                have hs : Srt R (rot f s m e) a s := HHAL.out.s1
                have e5 : s = mid := by have := HEF.out; omega
                intro x y x1 x2 x3
                exact hs x y x1 x2 (by omega)
              have HG1 : Hid (∀ x, mid ≤ x → (rot f s m e) x = rot f s m e x) := fun x hx => HQ1.out.out x (Or.inr hx)
              have hj : Srt R (rot f s m e) mid b := by
                intro x y x1 x2 x3
                rw [HG1.out x x1, HG1.out y (by omega)]
                have := HEF.out
                exact HHAL.out.s4 x y (by omega) x2 x3
              have J := srt_join (by have := HMD.out; omega) (by have := HMD.out; omega) HHAL.out.half HQ1.out HT1.out (Pm.refl (rot f s m e) mid b) hj
              refine bodyPost_end (v := .tuple #[]) (by simp [results, Tryd.results56, go_sem]) rfl ⟨rfl, (rot f s m e), HVb.out, HPG.out.trans J.2, J.1, HUb.out⟩
            · exfalso; have := HEF.out; omega
          · by_cases cD : e < b
            · exfalso; have := HEF.out; omega
            · exfalso; have := HEF.out; omega
    have d1 : (s : Int) < (r : Int) := by omega
    have d2 : (r : Int) ≤ 1000000 := by have := HLH.out.l3; omega
    obtain ⟨c, hc⟩ : ∃ c : Nat, ((s : Int) + (r : Int)) / 2 = (c : Int) := ⟨(s + r) / 2, by omega⟩
    have c1 : s ≤ c := by omega
    have c2 : c < r := by omega
    have HCE := (show Hid _ from hc)
    obtain ⟨p, hp⟩ : ∃ p : Nat, nn - 1 - c = p := ⟨_, rfl⟩
    have HPF : Hid (a ≤ c ∧ c < m ∧ m ≤ p ∧ p < b ∧ p + c + 1 = nn) := by
      have := HLH.out.l1; have := HLH.out.l3; have := HLH.out.l4; have := HLH.out.l5; have := HNE.out
      exact ⟨by omega, by omega, by omega, by omega, by omega⟩
    have HPE := (show Hid _ from hp)
    have HP : Hid ((nn : Int) - 1 - (c : Int) = (p : Int)) := by show _ = _; have := HPF.out; omega
    have HPN : Hid (p < n) := by show p < n; have := HPF.out; omega
    have HCN : Hid (c < n) := by show c < n; have := HPF.out; omega
    have g1 : (0 : Int) ≤ (c : Int) := by omega
    have g2 : (c : Int) < (n : Int) := by have := HCN.out; omega
    have g3 : (0 : Int) ≤ (p : Int) := by omega
    have g4 : (p : Int) < (n : Int) := by have := HPN.out; omega
    clear hc hp
    go_upto_region 35 with fail
    rw [HCE.out]
    refine wp_region_noPanic ?_
    refine wp_region_held_drew (S := fun w' => VA w' q (row f n) 3 ∧ Below wr.heap.size wr w') (by kernel_rfl) ⟨HV.out.drew, (Below.refl _ _).drew⟩ (fun hHeld => ?_)
    refine takeD 0 158 (.func (.func 44) #[] #[.pointer (some ⟨bx, 0, none⟩)]) (by exact rfl) rfl (by kernel_rfl) (by kernel_rfl) (by kernel_rfl) (fun _ _ _ h => h) (Or.inl ⟨by rfl, ?_⟩) (by assumption) ?_
    · intro wq hS
      go_simp
    try simp only [Act.put, List.setIfInBounds_toArray, List.set_cons_zero, List.set_cons_succ]
    refine takeD 1 159 (.slice (some ⟨q, 0, none⟩) n n) (by exact rfl) rfl (by kernel_rfl) (by kernel_rfl) (by kernel_rfl) (fun _ _ _ h => h) (Or.inl ⟨by rfl, ?_⟩) (by assumption) ?_
    · intro wq hS
      go_simp
    try simp only [Act.put, List.setIfInBounds_toArray, List.set_cons_zero, List.set_cons_succ]
    refine takeD 2 160 (.int .i64 ((nn : Int) - 1)) (by exact rfl) rfl (by kernel_rfl) (by kernel_rfl) (by kernel_rfl) (fun _ _ _ h => h) (Or.inl ⟨by rfl, ?_⟩) (by assumption) ?_
    · intro wq hS
      go_simp
    try simp only [Act.put, List.setIfInBounds_toArray, List.set_cons_zero, List.set_cons_succ]
    refine takeD 3 161 (.int .i64 (c : Int)) (by exact rfl) rfl (by kernel_rfl) (by kernel_rfl) (by kernel_rfl) (fun _ _ _ h => h) (Or.inl ⟨by rfl, ?_⟩) (by assumption) ?_
    · intro wq hS
      go_simp
    try simp only [Act.put, List.setIfInBounds_toArray, List.set_cons_zero, List.set_cons_succ]
    refine takeD 4 162 (.int .i64 (p : Int)) (by exact rfl) rfl (by kernel_rfl) (by kernel_rfl) (by kernel_rfl) (fun _ _ _ h => h) (Or.inl ⟨by rfl, ?_⟩) (by assumption) ?_
    · intro wq hS
      have q3 := HP.out
      go_simp
      rw [IntKind.wrap_i64]; omega
    try simp only [Act.put, List.setIfInBounds_toArray, List.set_cons_zero, List.set_cons_succ]
    refine takeD 5 163 (.pointer (some ⟨q, p, none⟩)) (by exact rfl) rfl (by kernel_rfl) (by kernel_rfl) (by kernel_rfl) (fun _ _ _ h => h) (Or.inl ⟨by rfl, ?_⟩) (by assumption) ?_
    · intro wq hS
      go_simp
    try simp only [Act.put, List.setIfInBounds_toArray, List.set_cons_zero, List.set_cons_succ]
    refine takeD 6 164 (.int .i64 (f p : Int)) (by exact rfl) rfl (by kernel_rfl) (by kernel_rfl) (by kernel_rfl) (fun _ _ _ h => h) (Or.inl ⟨by rfl, ?_⟩) (by assumption) ?_
    · intro wq hS
      have h0 := hS.1.cell p (row_get f HPN.out)
      go_simp
    try simp only [Act.put, List.setIfInBounds_toArray, List.set_cons_zero, List.set_cons_succ]
    refine takeD 7 165 (.slice (some ⟨q, 0, none⟩) n n) (by exact rfl) rfl (by kernel_rfl) (by kernel_rfl) (by kernel_rfl) (fun _ _ _ h => h) (Or.inl ⟨by rfl, ?_⟩) (by assumption) ?_
    · intro wq hS
      go_simp
    try simp only [Act.put, List.setIfInBounds_toArray, List.set_cons_zero, List.set_cons_succ]
    refine takeD 8 166 (.int .i64 (c : Int)) (by exact rfl) rfl (by kernel_rfl) (by kernel_rfl) (by kernel_rfl) (fun _ _ _ h => h) (Or.inl ⟨by rfl, ?_⟩) (by assumption) ?_
    · intro wq hS
      go_simp
    try simp only [Act.put, List.setIfInBounds_toArray, List.set_cons_zero, List.set_cons_succ]
    refine takeD 9 167 (.pointer (some ⟨q, c, none⟩)) (by exact rfl) rfl (by kernel_rfl) (by kernel_rfl) (by kernel_rfl) (fun _ _ _ h => h) (Or.inl ⟨by rfl, ?_⟩) (by assumption) ?_
    · intro wq hS
      go_simp
    try simp only [Act.put, List.setIfInBounds_toArray, List.set_cons_zero, List.set_cons_succ]
    refine takeD 10 168 (.int .i64 (f c : Int)) (by exact rfl) rfl (by kernel_rfl) (by kernel_rfl) (by kernel_rfl) (fun _ _ _ h => h) (Or.inl ⟨by rfl, ?_⟩) (by assumption) ?_
    · intro wq hS
      have h0 := hS.1.cell c (row_get f HCN.out)
      go_simp
    try simp only [Act.put, List.setIfInBounds_toArray, List.set_cons_zero, List.set_cons_succ]
    refine wpAnyH_ready (rs := [11]) (by kernel_rfl) (by simp) ?_
    refine AllReadyH.cons (by exact rfl) (fun K hK => ?_) AllReadyH.nil
    go_simp
    refine (HKC.out.call (f p) (f c) _ (HBF.out _ HPN.out) (HBF.out _ HCN.out) (HKC.out.keep _ _ HC.out (HU.out.trans (Qx.of_bel hHeld.2)))).mono ?_
    rintro e w1 ⟨⟨z, rfl, hz⟩, b1⟩
    have hH2 := (show VA w1 q _ _ ∧ Below wr.heap.size wr w1 from ⟨hHeld.1.step b1, hHeld.2.trans (b1.mono hHeld.2.size)⟩)
    clear hHeld b1
    go_wp2_with fail
    refine hK.out _ _ hH2 (fun hHeld => ?_)
    clear hH2
    try simp only [Act.put, List.setIfInBounds_toArray, List.set_cons_zero, List.set_cons_succ]
    clear hK K
    have HZ := (show Hid _ from hz)
    clear hz
    by_cases hz0 : z < 0
    · refine takeD 12 170 (.bool true) (by exact rfl) rfl (by kernel_rfl) (by kernel_rfl) (by kernel_rfl) (fun _ _ _ h => h) (Or.inl ⟨by rfl, ?_⟩) (by assumption) ?_
      · intro wq hS
        go_simp
      try simp only [Act.put, List.setIfInBounds_toArray, List.set_cons_zero, List.set_cons_succ]
      refine takeD 13 171 (.bool false) (by exact rfl) rfl (by kernel_rfl) (by kernel_rfl) (by kernel_rfl) (fun _ _ _ h => h) (Or.inl ⟨by rfl, ?_⟩) (by assumption) ?_
      · intro wq hS
        go_simp
      try simp only [Act.put, List.setIfInBounds_toArray, List.set_cons_zero, List.set_cons_succ]
      refine wpAnyH_done (by kernel_rfl) ?_ _
      refine NoPanic.normal ?_
      have HV2 := (show Hid _ from hHeld.1)
      have HU2 := (show Hid _ from HU.out.trans (Qx.of_bel hHeld.2))
      have HZ0 : Hid (R (f c) < R (f p)) := HZ.out.1 hz0
      clear hHeld HZ hz0
      go_wp2_with fail
      refine ⟨⟨s, c, hs1, c1, by omega, rfl, rfl, HP1.out, fun _ => ?_, HV2.out, HU2.out⟩, by simp [intOf]; omega⟩
      rw [HPE.out]; exact Or.inl HZ0.out
    · refine takeD 12 170 (.bool false) (by exact rfl) rfl (by kernel_rfl) (by kernel_rfl) (by kernel_rfl) (fun _ _ _ h => h) (Or.inl ⟨by rfl, ?_⟩) (by assumption) ?_
      · intro wq hS
        go_simp
      try simp only [Act.put, List.setIfInBounds_toArray, List.set_cons_zero, List.set_cons_succ]
      refine takeD 13 171 (.bool true) (by exact rfl) rfl (by kernel_rfl) (by kernel_rfl) (by kernel_rfl) (fun _ _ _ h => h) (Or.inl ⟨by rfl, ?_⟩) (by assumption) ?_
      · intro wq hS
        go_simp
      try simp only [Act.put, List.setIfInBounds_toArray, List.set_cons_zero, List.set_cons_succ]
      refine wpAnyH_done (by kernel_rfl) ?_ _
      refine NoPanic.normal ?_
      have HV2 := (show Hid _ from hHeld.1)
      have HU2 := (show Hid _ from HU.out.trans (Qx.of_bel hHeld.2))
      have HZ0 : Hid (¬ R (f c) < R (f p)) := fun hq => hz0 (HZ.out.2 hq)
      clear hHeld HZ hz0
      go_wp2_with fail
      refine ⟨⟨c + 1, r, by omega, by omega, hr1, by go_num, rfl, fun _ => ?_, HP2.out, HV2.out, HU2.out⟩, by simp [intOf]; omega⟩
      have := HPF.out
      rw [show c + 1 - 1 = c by omega, show nn - (c + 1) = p by omega]
      exact bf_stay (HL.out c p (by omega) (by omega) (by omega) (by omega)) HZ0.out
theorem sym_ok (q n bx : Nat) (R : Nat → Nat) (C : World → Prop) (KC : Cmpr q n bx R C) (h3 : n ≤ 1000000) (N : Nat) : SymS q n bx R C N := by
  induction N with
  | zero => intro a m b f w hN _ _ h1 h2; omega
  | succ N ih =>
    intro a m b f w hN V hC h1 h2 h4 B S1 S2 L
    by_cases hm : m = a + 1
    · exact sym_left q n bx a m b R f C KC w V hC h1 h2 h4 h3 B S1 S2 L hm
    · by_cases hb : b = m + 1
      · exact sym_right q n bx a m b R f C KC w V hC h1 h2 h4 h3 B S1 S2 L hm hb
      · exact sym_mid q n bx a m b R f C KC w V hC h1 h2 h4 h3 B S1 S2 L N ih hN hm hb
end Go.Proofs.YtbgglghapjfdeaaDoor
