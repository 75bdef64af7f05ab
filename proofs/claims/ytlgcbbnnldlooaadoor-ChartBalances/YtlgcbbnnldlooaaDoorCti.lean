/- chart: maps.Copy; Post. -/
import Derived.Test.YtlgcbbnnldlooaaDoorCth
namespace Go.Proofs.YtlgcbbnnldlooaaDoor
open Go.RowKit Go.Maps
set_option linter.unusedVariables false

set_option maxHeartbeats 4000000 in
set_option maxRecDepth 100000 in
theorem copy_ok (d s n : Nat) (T : Int → Int → Bool) (b0 b1 : Int → Int → Int) (w : World) (Hd : AMap w d 32 (fun _ _ => true) b0) (Hs : AMap w s n T b1) (hds : d ≠ s) :
    Calls Tryd.prog 29 #[.map (some d), .map (some s)] w fun e w' => e = .returned (.tuple #[]) ∧ AMap w' d 32 (fun _ _ => true) (fun c u => if T c u then b1 c u else b0 c u) ∧ But (fun i => i = d) w w' := by
  obtain ⟨f, m1, m2, m3⟩ := Hs.ex
  have HM1 : Hid (MapF w 64 s n f) := m1
  have HM2 := (show Hid _ from m2)
  have HM3 := (show Hid _ from m3)
  have HD := (show Hid _ from Hd)
  have HDS := (show Hid _ from hds)
  have HDL : Hid (d < w.heap.size ∧ s < w.heap.size) := ⟨Hd.lt, Hs.lt⟩
  clear m1 m2 m3 Hd Hs hds
  go_enter Tryd.func29, Tryd.ntmps29
  go_wp2_with (first | (at_range; refine rgM rfl _ 60 rfl 64 37 keyedA Tryd.underlying60 s n f (by rfl) HM1.out ?_; intro w1 left cnt r1 l1 b1') | go_in)
  go_frame
  have R1 : Hid (RanF w1 64 s w.heap.size n f left cnt) := r1
  have D1 : Hid (AMap w1 d 32 (fun _ _ => true) (fun c u => if T c u && !left (la c u) then b1 c u else b0 c u)) := (HD.out.step b1').congr (fun _ _ _ => rfl) (fun c u hv _ => by
    rw [l1 _ _ hv.key, HM2.out c u hv]
    cases T c u <;> rfl)
  have U1 : Hid (But (fun i => i = d) w w1) := below_but b1' _
  clear r1 l1 b1'
  obtain ⟨r, hr⟩ : ∃ r, r = w.heap.size := ⟨_, rfl⟩
  rw [← hr] at R1 ⊢
  have HR := (show Hid _ from hr)
  clear hr
  go_loopw [] (fun wx => ∃ left cnt, Hid (RanF wx 64 s r n f left cnt) ∧ Hid (AMap wx d 32 (fun _ _ => true) (fun c u => if T c u && !left (la c u) then b1 c u else b0 c u)) ∧ Hid (But (fun i => i = d) w wx)) (fun wx => wx.rangeLeft s r)
  case atStart => exact ⟨left, cnt, R1.out, D1.out, U1.out⟩
  case round =>
    obtain ⟨left, cnt, R, DD, U⟩ := hrel
    go_wp2_with (at_next; refine nxM rfl _ rfl 64 keyedA s r n f left cnt (by rfl) R.out ?_ ?_)
    · intro hl0
      go_wp2_with fail
      refine bodyPost_end (v := .tuple #[]) (by simp [results, Tryd.results29, go_sem]) rfl ?_
      refine ⟨rfl, DD.out.congr (fun _ _ _ => rfl) (fun c u hv _ => ?_), U.out⟩
      rw [hl0]
      simp
    · intro x c kl w2 cnt2 hkey hlk hc R2 hlt U2 hen
      obtain ⟨x0, x1, hv, rfl⟩ := HM3.out x kl hkey (by rw [hc]; rfl)
      have hxk : x = ka x0 x1 := keyedA.inj hkey hv.key
      subst hxk
      have hT : T x0 x1 = true := by
        have := HM2.out x0 x1 hv
        rw [hc] at this
        cases e : T x0 x1
        · rw [e] at this; cases this
        · rfl
      have hcv : c = dv (b1 x0 x1) 12 := by
        have := HM2.out x0 x1 hv
        rw [hc, hT] at this
        simpa using this
      subst hcv
      have HVA : Hid (Va x0 x1) := hv
      have HT := (show Hid _ from hT)
      have HMS : Hid (w2.rangeLeft s r = cnt2 ∧ wr.rangeLeft s r = cnt ∧ cnt2 < cnt) := ⟨R2.left_eq, R.out.left_eq, hlt⟩
      have HR2 : Hid (RanF w2 64 s r n f (fun z => left z && !z.sameKey (la x0 x1)) cnt2) := R2
      have HRL : Hid (d ≠ r) := fun (e : d = r) => by have := HDL.out.1; have := HR.out; omega
      have D2 := (show Hid _ from DD.out.but U2 HRL.out)
      have U3 : Hid (But (fun i => i = d) w w2) := U.out.trans U2 (fun i hi e => by have := HR.out; omega)
      clear hv hT R2 hlt U2 hc hkey hlk
      obtain ⟨z, hz⟩ : ∃ z, z = b1 x0 x1 := ⟨_, rfl⟩
      rw [← hz] at hen ⊢
      have HZ := (show Hid _ from hz)
      clear hz
      unfold ka dv at hen
      unfold ka dv
      go_upto_region 3 with fail
      obtain ⟨g, k1, k2, k3⟩ := D2.out.ex
      have BA := ((Below.refl w2.heap.size w2).alloc (Nat.le_refl _) (.cells #[.int .i64 x0, .int .i64 x1] 64)).alloc (by simp) (.cells #[.int .i64 (dhi z), .int .u64 (dlo z), .int .i64 12] 37)
      have K1 : Hid (MapF _ 64 d 32 g) := k1.step BA
      have K2 := (show Hid _ from k2)
      have K3 := (show Hid _ from k3)
      have HR4 : Hid (RanF _ 64 s r n f (fun z => left z && !z.sameKey (la x0 x1)) cnt2) := HR2.out.step BA
      have U4 := (show Hid _ from U3.out.then BA)
      clear k1 k2 k3 BA D2 HR2 U3 hen
      go_wp2_with (refine stM rfl _ _ _ 60 rfl 64 37 keyedA Tryd.underlying60 d 32 g (by rfl) K1.out (by unfold maxLen; omega) (.agg #[.int .i64 x0, .int .i64 x1]) (dv z 12) (la x0 x1) (by rfl) (by rfl) HVA.out.key ?_; intro w5 m5 t5)
      have M5 := (AMap.put (T := fun _ _ => true) (b := fun c u => if T c u && !left (la c u) then b1 c u else b0 c u) (fun c u hv => by simpa using K2.out c u hv) K3.out HVA.out m5).fit
      have V5 := turned_but t5
      have R5 := HR4.out.but V5 (fun e => HDS.out e.symm) (fun e => HRL.out e.symm)
      refine ⟨⟨fun z => left z && !z.sameKey (la x0 x1), ⟨cnt2, R5⟩, M5.congr (fun c u _ => by simp) (fun c u hv _ => ?_), U4.out.trans V5 (fun i _ e => e)⟩, ?_⟩
      · by_cases e : c = x0 ∧ u = x1
        · obtain ⟨rfl, rfl⟩ := e
          have := WideAt.sameKey_self (keyedA.key hv.key)
          rw [if_pos ⟨rfl, rfl⟩, if_pos ⟨HT.out, by simp only [this, Bool.not_true, Bool.and_false]⟩, HZ.out]
        · rw [if_neg e]
          have : Lit.sameKey (la c u) (la x0 x1) = false := by
            cases h : Lit.sameKey (la c u) (la x0 x1)
            · rfl
            · exact absurd (WideAt.sameKey_eq h) (la_ne hv HVA.out e)
          simp only [this, Bool.not_false, Bool.and_true, Bool.and_eq_true, Bool.not_eq_true']
      · rw [R5.left_eq, HMS.out.2.1]
        exact HMS.out.2.2
end Go.Proofs.YtlgcbbnnldlooaaDoor
