/- prod: Check by the program and by the document. -/
import Derived.Test.YtgbphbeafomabaaGd
namespace Go.Proofs.Ytgbphbeafomabaa
open Go.RowKit
set_option linter.unusedVariables false

def chk (x : PV) : Int := if x.inr = true then terr x.ts else 1
theorem infoP : (Try.prog.info? 25).map (·.size) = some 9 := by kernel_rfl
theorem infoR : (Try.prog.info? 24).map (·.size) = some 9 := by kernel_rfl
set_option maxHeartbeats 1000000 in
set_option maxRecDepth 100000 in
theorem check_ok (x : PV) (tv : Value) (w : World) (h : Tr w tv x.ts) :
    Calls Try.prog 10 #[.agg (x.cells tv).toArray] w fun e w' => e = .returned (.int .i64 (chk x)) ∧ Below w.heap.size w w' := by
  have HV := (show Hid _ from va_new w (x.cells tv) 25)
  have HD := (show Hid _ from (Below.refl w.heap.size w).alloc (Nat.le_refl _) (.cells (x.cells tv).toArray 25))
  have HT := (show Hid _ from h.step HD.out)
  clear h
  cases hx : x.inr
  · rw [show chk x = 1 by simp [chk, hx]]
    go_enter Try.func10, Try.ntmps10
    go_wp2_with (refine ldA rfl 25 _ rfl w.heap.size (by rfl) _ _ HV.out _ Try.underlying25 rfl infoP ?_)
    refine (numbers_ok x tv _).mono ?_
    rintro e w1 ⟨rfl, b1⟩
    rw [hx]
    go_wp2_with fail
    go_ret
    exact ⟨rfl, HD.out.trans (b1.mono HD.out.size)⟩
  · rw [show chk x = terr x.ts by simp [chk, hx]]
    go_enter Try.func10, Try.ntmps10
    go_wp2_with (refine ldA rfl 25 _ rfl w.heap.size (by rfl) _ _ HV.out _ Try.underlying25 rfl infoP ?_)
    refine (numbers_ok x tv _).mono ?_
    rintro e w1 ⟨rfl, b1⟩
    rw [hx]
    have D1 := (show Hid _ from HD.out.trans (b1.mono HD.out.size))
    have p8 := (HV.out.step b1).cell 8 (v := tv) rfl
    have T1 := (show Hid _ from HT.out.step b1)
    obtain ⟨ta, tn, tc, rfl⟩ : ∃ a n c, tv = .slice a n c := by obtain ⟨_, a, c, e, _⟩ := HT.out; exact ⟨a, _, c, e⟩
    clear b1
    go_wp2_with fail
    refine (tiers_ok _ x.ts _ T1.out).mono ?_
    rintro e w2 ⟨rfl, b2⟩
    go_wp2_with fail
    go_ret
    exact ⟨rfl, D1.out.trans (b2.mono D1.out.size)⟩
theorem wi_yes {n l g : Int} (h : wi n l g = true) : l ≤ n ∧ n ≤ g := by simpa [wi] using h
theorem wi_no {n l g : Int} (h : wi n l g = false) : n < l ∨ g < n := by
  simp only [wi, decide_eq_false_iff_not] at h
  omega
end Go.Proofs.Ytgbphbeafomabaa
