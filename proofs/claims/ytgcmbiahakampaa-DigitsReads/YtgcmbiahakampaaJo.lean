/- digits: Parse's deferred closure where the number is too great. -/
import Derived.Test.YtgcmbiahakampaaJn
namespace Go.Proofs.Ytgcmbiahakampaa
open Go.RowKit
set_option linter.unusedVariables false
set_option linter.unusedSimpArgs false

set_option maxHeartbeats 2000000 in
theorem catch_great (p q t : Nat) (x y : Value) (w : World) (hp : VA w p zdl 24) (hq : VA w q [x] 3) (ht : VA w t [y] 26) (h1 : p < q) (h2 : q < t) :
    CallsD Try.prog 19 #[.pointer (some ⟨p, 0, none⟩), .pointer (some ⟨q, 0, none⟩), .pointer (some ⟨t, 0, none⟩)] (.panicking [{ v := .iface 54 (.agg #[]), recovered := false }]) w fun e u' w' => e = .returned (.tuple #[]) ∧ u' = (.panicking [{ v := .iface 54 (.agg #[]), recovered := true }])
      ∧ VA w' p zdl 24 ∧ VA w' q [.int .i64 0] 3 ∧ VA w' t [.int .i64 4] 26 ∧ Below p w w' := by
  have HP := (show Hid _ from hp)
  have HQ := (show Hid _ from hq)
  have HT := (show Hid _ from ht)
  have H1 := (show Hid _ from h1)
  have H2 := (show Hid _ from h2)
  clear hp hq ht h1 h2
  refine callsD_of_wpS Try.func19 rfl fun c₀ cs hu => ?_
  apply wpS_seq
  apply wpS_region
  simp [wpOpsS, go_sem, recoverD, hu, Try.ntmps19, Exit.thenS]
  refine wpS_of_wp ?_
  have hu' : Hid (c₀.mode = _) := hu
  clear hu
  have e0 : ∀ x y, eqGuard .eql 20 x y (.iface 54 (.agg #[])) .nilIface = pure () := fun x y => eqGuard_at_iface ..
  have e1 := ifn 54 (.agg #[])
  have e2 := ta_miss (.agg #[])
  have e3 := ta_great (.agg #[])
  generalize hV : Value.iface 54 (.agg #[]) = V at *
  have HV := (show Hid _ from hV)
  clear hV
  rw [show (#[Value.pointer (some ⟨p, 0, none⟩), Value.pointer (some ⟨q, 0, none⟩), Value.pointer (some ⟨t, 0, none⟩)] ++ (Array.replicate 16 undef).setIfInBounds 4 V : Array Value) = #[.pointer (some ⟨p, 0, none⟩), .pointer (some ⟨q, 0, none⟩), .pointer (some ⟨t, 0, none⟩), undef, undef, undef, undef, V, undef, undef, undef, undef, undef, undef, undef, undef, undef, undef, undef] from rfl]
  go_upto_region 10 with fail
  clear e0 e1 e2 e3
  have HA : Hid (Below p w (w.alloc (.cells #[] 54))) := (Below.refl p w).alloc (by have := HP.out.lt; omega) _
  replace HP := (show Hid _ from HP.out.alloc (.cells #[] 54))
  replace HQ := (show Hid _ from HQ.out.alloc (.cells #[] 54))
  replace HT := (show Hid _ from HT.out.alloc (.cells #[] 54))
  change Code.wp _ _ _ _ (w.alloc (.cells #[] 54))
  generalize w.alloc (.cells #[] 54) = wa at *
  go_wp2_with (first | (refine stA rfl 24 _ _ rfl p (by rfl) zdl zdl (by rfl) 24 HP.out infoD rfl (by intro v hv; simp [zdl] at hv; rcases hv with rfl | rfl | rfl <;> rfl) ?_; intro w1 v1 u1; have HQ1 := (show Hid _ from HQ.out.upd u1 (by have := H1.out; omega)); have HT1 := (show Hid _ from HT.out.upd u1 (by have := H1.out; have := H2.out; omega)); have c1 := HQ1.out.cell 0 (v := x) rfl; have f1 := HQ1.out.free 0; have c2 := (HT1.out.set_other (q := q) (by have := H2.out; omega) 0 (.int .i64 0)).cell 0 (v := y) rfl; have f2 := (HT1.out.set_other (q := q) (by have := H2.out; omega) 0 (.int .i64 0)).free 0; have HV1 := (show Hid _ from v1); have HU := (show Hid _ from u1); clear u1 v1))
  have g1 := H1.out
  have g2 := H2.out
  have V1 := (HV1.out.set_other (q := q) (by omega) 0 (.int .i64 0)).set_other (q := t) (by omega) 0 (.int .i64 4)
  have V2 : VA _ q [.int .i64 0] 3 := (HQ1.out.set 0 (.int .i64 0)).set_other (q := t) (by omega) 0 (.int .i64 4)
  have V3 : VA _ t [.int .i64 4] 26 := (HT1.out.set_other (q := q) (by omega) 0 (.int .i64 0)).set 0 (.int .i64 4)
  have V4 := ((HU.out.bel HA.out (Nat.le_refl _)).setCell (p := ⟨q, 0, none⟩) (by show p ≤ q; omega) (.int .i64 0)).setCell (p := ⟨t, 0, none⟩) (by show p ≤ t; omega) (.int .i64 4)
  exact ⟨rfl, _, rfl, .tuple #[], by simp [results, Try.results19, go_sem], rfl, by first | rw [HV.out] | rfl, V1, V2, V3, V4⟩
end Go.Proofs.Ytgcmbiahakampaa
