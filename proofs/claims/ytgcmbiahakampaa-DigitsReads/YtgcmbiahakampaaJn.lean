/- digits: Parse's deferred closure, and Parse. -/
import Derived.Test.YtgcmbiahakampaaJm
import Derived.Defers
import Derived.Recover
namespace Go.Proofs.Ytgcmbiahakampaa
open Go.RowKit
set_option linter.unusedVariables false
set_option linter.unusedSimpArgs false

set_option maxHeartbeats 1000000 in
theorem catch_idle (p q t : Addr) (w : World) :
    CallsD Try.prog 19 #[.pointer (some p), .pointer (some q), .pointer (some t)] .returning w fun e u' w' => e = .returned (.tuple #[]) ∧ u' = .returning ∧ w' = w := by
  refine callsD_of_wpS Try.func19 rfl fun c₀ cs hu => ?_
  apply wpS_seq
  apply wpS_region
  simp [wpOpsS, go_sem, recoverD, hu, Try.ntmps19, Exit.thenS]
  refine wpS_of_wp ?_
  go_wp2_with fail
  cases c₀
  simp_all [bodyPostS, results, Try.results19, Exit.thenS]
theorem infoN : (Try.prog.info? 3).map (·.size) = some 1 := by kernel_rfl
theorem ta_hit (v : Value) (xT : TypeId) (w : World) : (Instr.typeAssert (.iface 52 v) xT 52 true).run Try.prog w = .ok (.tuple #[v, .bool true]) w := by
  simp [Instr.typeAssert, run_underlying Try.underlying52, go_sem]
theorem ta_miss (v : Value) (xT : TypeId) (w : World) : (Instr.typeAssert (.iface 54 v) xT 52 true).run Try.prog w = .ok (.tuple #[.int .i64 0, .bool false]) w := by
  simp [Instr.typeAssert, run_underlying Try.underlying52, go_sem]
theorem ta_great (v : Value) (xT : TypeId) (w : World) : (Instr.typeAssert (.iface 54 v) xT 54 true).run Try.prog w = .ok (.tuple #[v, .bool true]) w := by
  simp [Instr.typeAssert, run_underlying Try.underlying54, go_sem]
theorem ifn (u : TypeId) (v : Value) (w : World) : (binOp .eql 20 (.iface u v) .nilIface).run Try.prog w = .ok (.bool false) w := run_eql_held_nil w 20 u v (by kernel_rfl)
set_option maxHeartbeats 2000000 in
theorem catch_fault (p q t i : Nat) (x y : Value) (w : World) (hp : VA w p zdl 24) (hq : VA w q [x] 3) (ht : VA w t [y] 26) (h1 : p < q) (h2 : q < t) :
    CallsD Try.prog 19 #[.pointer (some ⟨p, 0, none⟩), .pointer (some ⟨q, 0, none⟩), .pointer (some ⟨t, 0, none⟩)] (.panicking [{ v := .iface 52 (.int .i64 (i : Int)), recovered := false }]) w fun e u' w' => e = .returned (.tuple #[]) ∧ u' = (.panicking [{ v := .iface 52 (.int .i64 (i : Int)), recovered := true }])
      ∧ VA w' p zdl 24 ∧ VA w' q [.int .i64 (i : Int)] 3 ∧ VA w' t [.int .i64 6] 26 ∧ Below p w w' := by
  have HP := (show Hid _ from hp)
  have HQ := (show Hid _ from hq)
  have HT := (show Hid _ from ht)
  have H1 := (show Hid _ from h1)
  have H2 := (show Hid _ from h2)
  clear hp hq ht h1 h2
  refine callsD_of_wpS Try.func19 rfl fun c₀ cs hu => ?_
  apply wpS_seq
  apply wpS_region
  simp [wpOpsS, go_sem, recoverD, hu, Try.ntmps19, Exit.thenS]
  refine wpS_of_wp ?_
  have hu' : Hid (c₀.mode = _) := hu
  clear hu
  have e0 : ∀ x y, eqGuard .eql 20 x y (.iface 52 (.int .i64 (i : Int))) .nilIface = pure () := fun x y => eqGuard_at_iface ..
  have e1 := ifn 52 (.int .i64 (i : Int))
  have e2 := ta_hit (.int .i64 (i : Int))
  generalize hV : Value.iface 52 (.int .i64 (i : Int)) = V at *
  have HV := (show Hid _ from hV)
  clear hV
  rw [show (#[Value.pointer (some ⟨p, 0, none⟩), Value.pointer (some ⟨q, 0, none⟩), Value.pointer (some ⟨t, 0, none⟩)] ++ (Array.replicate 16 undef).setIfInBounds 4 V : Array Value) = #[.pointer (some ⟨p, 0, none⟩), .pointer (some ⟨q, 0, none⟩), .pointer (some ⟨t, 0, none⟩), undef, undef, undef, undef, V, undef, undef, undef, undef, undef, undef, undef, undef, undef, undef, undef] from rfl]
  go_upto_region 7 with fail
  clear e0 e1 e2
  go_wp2_with (first | (refine stA rfl 24 _ _ rfl p (by rfl) zdl zdl (by rfl) 24 HP.out infoD rfl (by intro v hv; simp [zdl] at hv; rcases hv with rfl | rfl | rfl <;> rfl) ?_; intro w1 v1 u1; have HQ1 := (show Hid _ from HQ.out.upd u1 (by have := H1.out; omega)); have HT1 := (show Hid _ from HT.out.upd u1 (by have := H1.out; have := H2.out; omega)); have c1 := HQ1.out.cell 0 (v := x) rfl; have f1 := HQ1.out.free 0; have c2 := (HT1.out.set_other (q := q) (by have := H2.out; omega) 0 (.int .i64 (i : Int))).cell 0 (v := y) rfl; have f2 := (HT1.out.set_other (q := q) (by have := H2.out; omega) 0 (.int .i64 (i : Int))).free 0; have HV1 := (show Hid _ from v1); have HU := (show Hid _ from u1); clear u1 v1))
  have g1 := H1.out
  have g2 := H2.out
  have V1 := (HV1.out.set_other (q := q) (by omega) 0 (.int .i64 (i : Int))).set_other (q := t) (by omega) 0 (.int .i64 6)
  have V2 : VA _ q [.int .i64 (i : Int)] 3 := (HQ1.out.set 0 (.int .i64 (i : Int))).set_other (q := t) (by omega) 0 (.int .i64 6)
  have V3 : VA _ t [.int .i64 6] 26 := (HT1.out.set_other (q := q) (by omega) 0 (.int .i64 (i : Int))).set 0 (.int .i64 6)
  have V4 := ((HU.out.bel (Below.refl p w) (Nat.le_refl _)).setCell (p := ⟨q, 0, none⟩) (by show p ≤ q; omega) (.int .i64 (i : Int))).setCell (p := ⟨t, 0, none⟩) (by show p ≤ t; omega) (.int .i64 6)
  exact ⟨rfl, _, rfl, .tuple #[], by simp [results, Try.results19, go_sem], rfl, by first | rw [HV.out] | rfl, V1, V2, V3, V4⟩
end Go.Proofs.Ytgcmbiahakampaa
