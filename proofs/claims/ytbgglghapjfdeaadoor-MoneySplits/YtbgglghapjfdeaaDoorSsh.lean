/- money's sort: the whole (slices.stableCmpFunc, SortStableFunc). -/
import Derived.Test.YtbgglghapjfdeaaDoorSsg
namespace Go.Proofs.YtbgglghapjfdeaaDoor
open Go.RowKit
set_option linter.unusedVariables false

set_option maxHeartbeats 8000000 in
set_option maxRecDepth 100000 in
theorem stable_ok (q n bx : Nat) (R f : Nat → Nat) (C : World → Prop) (KC : Cmpr q n bx R C) (w : World) (V : VA w q (row f n) 3) (hC : C w) (h3 : n ≤ 1000000) (B : ∀ x, x < n → f x < n) (I : ∀ x y, x < y → y < n → f x < f y) :
    Calls Tryd.prog 52 #[.slice (some ⟨q, 0, none⟩) n n, .int .i64 (n : Int), .func (.func 44) #[] #[.pointer (some ⟨bx, 0, none⟩)]] w fun e w' => e = .returned (.tuple #[]) ∧ ∃ g, VA w' q (row g n) 3 ∧ Pm f g 0 n ∧ Srt R g 0 n ∧ Qx q w w' := by
  have HV0 := (show Hid _ from V)
  have HKC := (show Hid _ from KC)
  have HC := (show Hid _ from hC)
  have HBF := (show Hid _ from B)
  have HI := (show Hid _ from I)
  clear V KC hC B I
  go_enter Tryd.func52, Tryd.ntmps52
  go_wp2_with fail
  go_loopw [7, 8] (fun s7 s8 wr => ∃ (k a b : Nat) (g : Nat → Nat), s7 = .int .i64 (a : Int) ∧ s8 = .int .i64 (b : Int) ∧ a ≤ n ∧ (b : Int) ≤ 1000020 ∧ Hid (b = a + 20) ∧ Hid (a = k * 20) ∧ Hid (Mx R g n 1 20 a) ∧ Hid (Pm f g 0 n) ∧ Hid (VA wr q (row g n) 3) ∧ Hid (Qx q w wr)) (fun s7 _ _ => n + 1 - (intOf s7).toNat)
  case atStart => exact ⟨0, 0, 20, f, by go_num, by go_num, by omega, by omega, rfl, rfl, Mx.start HI.out, Pm.refl _ _ _, HV0.out, Qx.refl _ _⟩
  case round =>
    obtain ⟨k, a, b, g, rfl, rfl, hA, hb1, HB, HA, HM, HP, HV, HU⟩ := hrel
    clear HV0
    by_cases hbn : (b : Int) ≤ (n : Int)
    · go_wp2_with fail
      refine (ins_ok q n bx a b R g C HKC.out _ HV.out (HKC.out.keep _ _ HC.out HU.out) (by have := HB.out; omega) (by omega) h3 (HP.out.bd (Nat.le_refl _) HBF.out) ?_).mono ?_
      · intro x y x1 x2 x3
        exact HM.out.less (j := y) (m := y) (by omega) (by omega) (by omega) x y x1 x2 (Nat.le_refl _) (by omega)
      rintro e w1 ⟨rfl, g1, v1, p1, s1, u1⟩
      have HV1 := (show Hid _ from v1)
      have HP1 := (show Hid _ from HP.out.trans (p1.wide (Nat.zero_le _) (by omega)))
      have HM1 := (show Hid _ from HM.out.step (by omega) (by omega) HA.out (j := a) (by omega) (by have := HB.out; omega) (by omega) (by have := HB.out; omega) (Or.inr ⟨b, by omega⟩) p1 s1)
      have HU1 := (show Hid _ from HU.out.trans u1)
      clear v1 p1 s1 u1
      go_wp2_with fail
      refine ⟨⟨k + 1, b, b + 20, g1, rfl, by go_num, by omega, by omega, rfl, by have := HB.out; have := HA.out; show _ = _; omega, HM1.out, HP1.out, HV1.out, HU1.out⟩, by have := HB.out; simp [intOf]; omega⟩
    · go_wp2_with fail
      refine (ins_ok q n bx a n R g C HKC.out _ HV.out (HKC.out.keep _ _ HC.out HU.out) hA (Nat.le_refl _) h3 (HP.out.bd (Nat.le_refl _) HBF.out) ?_).mono ?_
      · intro x y x1 x2 x3
        exact HM.out.less (j := y) (m := y) (by omega) (by omega) (by omega) x y x1 x2 (Nat.le_refl _) (by omega)
      rintro e w1 ⟨rfl, g1, v1, p1, s1, u1⟩
      have HV1 := (show Hid _ from v1)
      have HP1 := (show Hid _ from HP.out.trans (p1.wide (Nat.zero_le _) (Nat.le_refl _)))
      have HM1 := (show Hid _ from HM.out.step (by omega) (by omega) HA.out (j := a) (by omega) hA (Nat.le_refl _) (by have := HB.out; omega) (Or.inl rfl) p1 s1)
      have HU1 := (show Hid _ from HU.out.trans u1)
      clear v1 p1 s1 u1 HM HP HV HU
      go_wp2_with fail
      go_loopw [6, 7, 8, 9] (fun s6 s7 s8 s9 wr => ∃ (bs : Nat) (g : Nat → Nat), s6 = .int .i64 (bs : Int) ∧ 20 ≤ bs ∧ (bs : Int) ≤ 2000000 ∧ Hid (Mx R g n bs (2 * bs) 0) ∧ Hid (Pm f g 0 n) ∧ Hid (VA wr q (row g n) 3) ∧ Hid (Qx q w wr)) (fun s6 _ _ _ _ => n - (intOf s6).toNat)
      case atStart => exact ⟨20, g1, by go_num, by omega, by omega, (Mx.next HM1.out), HP1.out, HV1.out, HU1.out⟩
      case round =>
        obtain ⟨bs, g2, rfl, hs1, hs2, HM2, HP2, HV2, HU2⟩ := hrel
        clear HM1 HP1 HV1 HU1 HA HB
        by_cases hns : (n : Int) ≤ (bs : Int)
        · go_wp2_with fail
          refine bodyPost_end (v := .tuple #[]) (by simp [results, Tryd.results52, go_sem]) rfl ⟨rfl, g2, HV2.out, HP2.out, HM2.out.done (by omega), HU2.out⟩
        · have hs3 : (bs : Int) ≤ 1000000 := by omega
          go_wp2_with fail
          go_loopw [7, 8] (fun s7 s8 wr => ∃ (k a b : Nat) (g : Nat → Nat), s7 = .int .i64 (a : Int) ∧ s8 = .int .i64 (b : Int) ∧ a ≤ n ∧ (b : Int) ≤ 4000000 ∧ Hid (b = a + 2 * bs) ∧ Hid (a = k * (2 * bs)) ∧ Hid (Mx R g n bs (2 * bs) a) ∧ Hid (Pm f g 0 n) ∧ Hid (VA wr q (row g n) 3) ∧ Hid (Qx q w wr)) (fun s7 _ _ => n + 1 - (intOf s7).toNat)
          case atStart => exact ⟨0, 0, 2 * bs, g2, by go_num, by go_num, by omega, by omega, by show _ = _; omega, by show _ = _; omega, HM2.out, HP2.out, HV2.out, HU2.out⟩
          case round =>
            obtain ⟨k, a, b, g3, rfl, rfl, hA, hb1, HB, HA, HM3, HP3, HV3, HU3⟩ := hrel
            clear HM2 HP2 HV2 HU2
            obtain ⟨m, hm⟩ : ∃ m : Nat, (a : Int) + (bs : Int) = (m : Int) := ⟨a + bs, by omega⟩
            have HME : Hid (m = a + bs) := by show _ = _; omega
            have HMI := (show Hid _ from hm)
            clear hm
            have HA2 : Hid (a = (2 * k) * bs) := by show _ = _; rw [HA.out, Nat.mul_comm 2 k, Nat.mul_assoc]
            have HA3 : Hid (m = (2 * k + 1) * bs) := by show _ = _; rw [Nat.add_mul, ← HA2.out, HME.out]; omega
            by_cases hbn : (b : Int) ≤ (n : Int)
            · have HA4 : Hid (b = (2 * k + 2) * bs) := by show _ = _; rw [HB.out, Nat.add_mul, ← HA2.out]
              go_wp2_with fail
              rw [HMI.out]
              refine (sym_ok q n bx R C HKC.out h3 n a m b g3 _ (by omega) HV3.out (HKC.out.keep _ _ HC.out HU3.out) (by have := HME.out; omega) (by have := HME.out; have := HB.out; omega) (by omega) (HP3.out.bd (Nat.le_refl _) HBF.out) (HM3.out.srt HA2.out (Nat.le_refl _) (by have := HME.out; omega) (by have := HME.out; have := HB.out; omega)) (HM3.out.srt HA3.out (by have := HME.out; omega) (by have := HME.out; have := HB.out; omega) (by omega)) (fun x y x1 x2 y1 y2 => HM3.out.less (by omega) HA3.out (by have := HME.out; omega) x y x1 x2 y1 (by omega))).mono ?_
              rintro e w1 ⟨rfl, g4, v4, p4, s4, u4⟩
              have HV4 := (show Hid _ from v4)
              have HP4 := (show Hid _ from HP3.out.trans (p4.wide (Nat.zero_le _) (by omega)))
              have HM4 := (show Hid _ from HM3.out.step (by omega) (by omega) HA.out HA2.out (by have := HB.out; omega) (by omega) (by have := HB.out; omega) (Or.inr ⟨_, HA4.out⟩) p4 s4)
              have HU4 := (show Hid _ from HU3.out.trans u4)
              clear v4 p4 s4 u4
              go_wp2_with fail
              refine ⟨⟨k + 1, b, b + 2 * bs, g4, rfl, by go_num, by omega, by omega, rfl, by show _ = _; rw [Nat.add_mul, ← HA.out, HB.out]; omega, HM4.out, HP4.out, HV4.out, HU4.out⟩, by have := HB.out; simp [intOf]; omega⟩
            · by_cases hmn : (m : Int) < (n : Int)
              · go_upto_region 14 with fail
                rw [HMI.out]
                go_wp2_with fail
                refine (sym_ok q n bx R C HKC.out h3 n a m n g3 _ (by omega) HV3.out (HKC.out.keep _ _ HC.out HU3.out) (by have := HME.out; omega) (by omega) (Nat.le_refl _) (HP3.out.bd (Nat.le_refl _) HBF.out) (HM3.out.srt HA2.out (Nat.le_refl _) (by have := HME.out; omega) (by omega)) (HM3.out.srt HA3.out (by have := HME.out; omega) (by have := HME.out; have := HB.out; omega) (Nat.le_refl _)) (fun x y x1 x2 y1 y2 => HM3.out.less (by omega) HA3.out (by have := HME.out; omega) x y x1 x2 y1 y2)).mono ?_
                rintro e w1 ⟨rfl, g4, v4, p4, s4, u4⟩
                have HV4 := (show Hid _ from v4)
                have HP4 := (show Hid _ from HP3.out.trans (p4.wide (Nat.zero_le _) (Nat.le_refl _)))
                have HM4 := (show Hid _ from HM3.out.step (by omega) (by omega) HA.out HA2.out hA (Nat.le_refl _) (by have := HB.out; omega) (Or.inl rfl) p4 s4)
                have HU4 := (show Hid _ from HU3.out.trans u4)
                clear v4 p4 s4 u4
                go_wp2_with fail
                refine ⟨⟨2 * bs, g4, by go_num, by omega, by omega, (Mx.next HM4.out), HP4.out, HV4.out, HU4.out⟩, by simp [intOf]; omega⟩
              · have HM4 := (show Hid _ from HM3.out.step (by omega) (by omega) HA.out HA2.out hA (Nat.le_refl _) (by have := HB.out; omega) (Or.inl rfl) (Pm.refl _ _ _) (HM3.out.srt HA2.out (Nat.le_refl _) (by have := HME.out; omega) (Nat.le_refl _)))
                go_upto_region 14 with fail
                rw [HMI.out]
                go_wp2_with fail
                refine ⟨⟨2 * bs, g3, by go_num, by omega, by omega, (Mx.next HM4.out), HP3.out, HV3.out, HU3.out⟩, by simp [intOf]; omega⟩
theorem sortst_ok (q n bx : Nat) (R f : Nat → Nat) (C : World → Prop) (KC : Cmpr q n bx R C) (w : World) (V : VA w q (row f n) 3) (hC : C w) (h3 : n ≤ 1000000) (B : ∀ x, x < n → f x < n) (I : ∀ x y, x < y → y < n → f x < f y) :
    Calls Tryd.prog 43 #[.slice (some ⟨q, 0, none⟩) n n, .func (.func 44) #[] #[.pointer (some ⟨bx, 0, none⟩)]] w fun e w' => e = .returned (.tuple #[]) ∧ ∃ g, VA w' q (row g n) 3 ∧ Pm f g 0 n ∧ Srt R g 0 n ∧ Qx q w w' := by
  have HV0 := (show Hid _ from V)
  have HKC := (show Hid _ from KC)
  have HC := (show Hid _ from hC)
  have HBF := (show Hid _ from B)
  have HI := (show Hid _ from I)
  clear V KC hC B I
  go_enter Tryd.func43, Tryd.ntmps43
  go_wp2_with fail
  refine (stable_ok q n bx R f C HKC.out _ HV0.out HC.out h3 HBF.out HI.out).mono ?_
  rintro e w1 ⟨rfl, h1⟩
  have H1 := (show Hid _ from h1)
  clear h1
  go_wp2_with fail
  exact bodyPost_end (v := .tuple #[]) (by simp [results, Tryd.results43, go_sem]) rfl ⟨rfl, H1.out⟩
end Go.Proofs.YtbgglghapjfdeaaDoor
