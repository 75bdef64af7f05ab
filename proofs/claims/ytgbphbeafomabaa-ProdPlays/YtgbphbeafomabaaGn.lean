/- prod: Add. -/
import Derived.Test.YtgbphbeafomabaaGm
namespace Go.Proofs.Ytgbphbeafomabaa
open Go.RowKit Go.Shelf
set_option linter.unusedVariables false

/-- what Add answers -/
def addE (vs : List PV) (x : PV) : Int := if chk x ≠ 0 then chk x else if fol vs x ≠ 0 then fol vs x else if 64 ≤ vs.length then 17 else 0
theorem chk_range (x : PV) : 0 ≤ chk x ∧ chk x ≤ 3 := by
  unfold chk terr
  split
  · split
    · omega
    · split
      · omega
      · split <;> omega
  · omega
theorem fol_range (vs : List PV) (x : PV) : 0 ≤ fol vs x ∧ fol vs x ≤ 11 := by
  unfold fol
  split
  · omega
  · split
    · omega
    · split
      · omega
      · split <;> omega
set_option maxRecDepth 100000 in
set_option maxHeartbeats 2000000 in
theorem add_nil (x : PV) (tv : Value) (w : World) (h : Tr w tv x.ts) :
    Calls Try.prog 17 #[.pointer none, .agg (x.cells tv).toArray] w fun e w' => e = .returned (.int .i64 (if chk x ≠ 0 then chk x else 7)) ∧ Below w.heap.size w w' := by
  have HV := (show Hid _ from va_new w (x.cells tv) 25)
  have HD := (show Hid _ from (Below.refl w.heap.size w).alloc (Nat.le_refl _) (.cells (x.cells tv).toArray 25))
  have HT := (show Hid _ from h.step HD.out)
  have hr := chk_range x
  clear h
  by_cases hc : chk x = 0
  · rw [if_neg (by omega)]
    go_enter Try.func17, Try.ntmps17
    go_wp2_with (refine ldA rfl 25 _ rfl w.heap.size (by rfl) _ _ HV.out _ Try.underlying25 rfl infoP ?_)
    refine (check_ok x tv _ HT.out).mono ?_
    rintro e w1 ⟨rfl, b1⟩
    rw [hc]
    go_wp2_with fail
    go_ret
    exact ⟨rfl, HD.out.trans (b1.mono HD.out.size)⟩
  · rw [if_pos hc]
    go_enter Try.func17, Try.ntmps17
    go_wp2_with (refine ldA rfl 25 _ rfl w.heap.size (by rfl) _ _ HV.out _ Try.underlying25 rfl infoP ?_)
    refine (check_ok x tv _ HT.out).mono ?_
    rintro e w1 ⟨rfl, b1⟩
    have e1 : (chk x != 0) = true := by simpa using hc
    go_wp2_with fail
    go_ret
    exact ⟨rfl, HD.out.trans (b1.mono HD.out.size)⟩
theorem Cat.order {w : World} {p B : Nat} {S : Nat → Prop} {vs : List PV} (h : Cat w p B S vs) : ∃ bm sa cap, VA w p [.map (some bm), .slice sa vs.length cap] 65 ∧ vs.length ≤ cap ∧ cap ≤ 9223372036854775807 := by
  obtain ⟨h1, h2, h3, bm, sv, n, f, a1, a2, a3, a4, a5, a6, a7, a8⟩ := h
  obtain ⟨_, a, c, e, h1, h2, _⟩ := a6.tr
  subst e
  have : (keysOf vs).length = vs.length := by simp [keysOf]
  rw [this] at a1 h1
  exact ⟨bm, a, c, a1, h1, h2⟩
set_option maxRecDepth 100000 in
set_option maxHeartbeats 2000000 in
theorem add_no {p B : Nat} {S : Nat → Prop} {vs : List PV} (x : PV) (tv : Value) (w : World) (hC : Cat w p B S vs) (hx : x.wf) (h : Tr w tv x.ts) (hno : addE vs x ≠ 0) :
    Calls Try.prog 17 #[.pointer (some ⟨p, 0, none⟩), .agg (x.cells tv).toArray] w fun e w' => e = .returned (.int .i64 (addE vs x)) ∧ Below w.heap.size w w' := by
  have HV := (show Hid _ from va_new w (x.cells tv) 25)
  have HD := (show Hid _ from (Below.refl w.heap.size w).alloc (Nat.le_refl _) (.cells (x.cells tv).toArray 25))
  have HT := (show Hid _ from h.step HD.out)
  have HC := (show Hid _ from hC.step HD.out)
  have hr := chk_range x
  have hf := fol_range vs x
  have HA : Hid (addE vs x = if chk x ≠ 0 then chk x else if fol vs x ≠ 0 then fol vs x else if 64 ≤ vs.length then 17 else 0) := rfl
  have HNO := (show Hid _ from hno)
  clear h hno hC
  by_cases hc : chk x = 0
  · have HCK := (show Hid _ from hc)
    go_enter Try.func17, Try.ntmps17
    go_wp2_with (refine ldA rfl 25 _ rfl w.heap.size (by rfl) _ _ HV.out _ Try.underlying25 rfl infoP ?_)
    refine (check_ok x tv _ HT.out).mono ?_
    rintro e w1 ⟨rfl, b1⟩
    rw [hc]
    have V1 := (show Hid _ from HV.out.step b1)
    have C1 := (show Hid _ from HC.out.step b1)
    have D1 := (show Hid _ from HD.out.trans (b1.mono HD.out.size))
    clear b1 HV HC HD hc
    go_wp2_with (refine ldA rfl 25 _ rfl w.heap.size (by rfl) _ _ V1.out _ Try.underlying25 rfl infoP ?_)
    refine (follows_ok x tv _ C1.out hx).mono ?_
    rintro e w2 ⟨rfl, b2⟩
    have D2 := (show Hid _ from D1.out.trans (b2.mono D1.out.size))
    have C2 := (show Hid _ from C1.out.step b2)
    clear b2 V1 C1 D1
    by_cases hq : fol vs x = 0
    · have h64 : 64 ≤ vs.length := by
        have h1 := HA.out
        rw [if_neg (by have := HCK.out; omega), if_neg (by omega)] at h1
        by_cases h64 : 64 ≤ vs.length
        · exact h64
        · rw [if_neg h64] at h1
          exact absurd h1 HNO.out
      have HE : Hid (addE vs x = 17) := by
        show addE vs x = 17
        rw [HA.out, if_neg (by have := HCK.out; omega), if_neg (by omega), if_pos h64]
      obtain ⟨bm, sa, cap, a1, a2, a3⟩ := C2.out.order
      have c1 := a1.cell 1 (v := .slice sa vs.length cap) rfl
      rw [hq]
      generalize vs.length = n at *
      have d1 : (64 : Int) ≤ (n : Int) := by omega
      clear a1 hq
      go_wp2_with fail
      go_ret
      exact ⟨by rw [HE.out]; rfl, D2.out⟩
    · have e1 : (fol vs x != 0) = true := by simpa using hq
      have HE : Hid (addE vs x = fol vs x) := by
        show addE vs x = _
        rw [HA.out, if_neg (by have := HCK.out; omega), if_pos hq]
      go_wp2_with fail
      go_ret
      exact ⟨by rw [HE.out]; rfl, D2.out⟩
  · have HE : Hid (addE vs x = chk x) := by
      show addE vs x = _
      rw [HA.out, if_pos hc]
    go_enter Try.func17, Try.ntmps17
    go_wp2_with (refine ldA rfl 25 _ rfl w.heap.size (by rfl) _ _ HV.out _ Try.underlying25 rfl infoP ?_)
    refine (check_ok x tv _ HT.out).mono ?_
    rintro e w1 ⟨rfl, b1⟩
    have e1 : (chk x != 0) = true := by simpa using hc
    go_wp2_with fail
    go_ret
    exact ⟨by rw [HE.out]; rfl, HD.out.trans (b1.mono HD.out.size)⟩
end Go.Proofs.Ytgbphbeafomabaa
