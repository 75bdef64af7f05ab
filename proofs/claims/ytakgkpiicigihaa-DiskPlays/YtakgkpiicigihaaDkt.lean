/- disk XIX: Restart. -/
import Derived.Test.YtakgkpiicigihaaDkr
namespace Go.Proofs.Ytakgkpiicigihaa
open Go.RowKit Go.Maps Go.Sort Go.Shelf pk
set_option linter.unusedVariables false

/-- what Restart leaves -/
def Rst (w w' : World) (B p m : Nat) (x : DK) (ks : List Bool) : Prop := (∃ ns, ns.Perm (x.es.map (·.nm)) ∧ ns.Pairwise (fun a b => a ≤ b) ∧ ∃ es', ab es' = (stl ks ns (ab x.es)).1 ∧ Dsk w' B p m { x with on := true, und := .nilFunc, es := es' }) ∧ Kee w w' ∧ Below B w w'
set_option maxRecDepth 100000 in
theorem restart_ok (w : World) (B p m : Nat) (x : DK) (h : Dsk w B p m x) (dn : Bool) (kv : Value) (ks : List Bool) (hk : Bl w kv ks) (hkl : ks.length ≤ 140737488355328) (hks : Safe w kv) (hoff : x.on = false) (hu : x.und = .nilFunc) :
    Calls Try.prog 19 #[ptr p, .agg #[.bool dn, kv]] w fun r w' => r = .returned (.int .i64 0) ∧ Rst w w' B p m x ks := by
  have HB0 : Hid (B ≤ w.heap.size) := (show B ≤ w.heap.size from Nat.le_trans h.lo.1 (Nat.le_of_lt h.va.lt))
  have b1 := (Below.refl w.heap.size w).alloc (Nat.le_refl _) (.cells #[.bool dn, kv] 47)
  have HH := (show Hid _ from h)
  have HV0 : Hid (VA w p [.int .i64 x.room, .map (some m), .bool false, .int .i64 x.ops, .int .i64 x.left, .nilFunc] 63) := by have := h.va; rw [hoff, hu] at this; exact this
  have V := (h.step b1).va
  rw [hoff, hu] at V
  have y2 := V.cell 2 (v := .bool false) rfl
  have y5 := V.cell 5 (v := .nilFunc) rfl
  have f5 := V.free 5
  have FV := va_new w [.bool dn, kv] 47
  have z0 := FV.cell 0 (v := .bool dn) rfl
  have z1 := FV.cell 1 (v := kv) rfl
  obtain ⟨ka, kc, hkv, _⟩ := hk.form
  have HK : Hid (Bl w kv ks) := hk
  have HS : Hid (Safe w kv) := hks
  have HD : Hid (Dsk (w.alloc (.cells #[.bool dn, kv] 47)) B p m x) := h.step b1
  have HB1 := (show Hid _ from b1)
  have HV := (show Hid _ from V)
  have hlp := h.va.lt
  have hff : ∀ w : World, (binOp .neq 1 .nilFunc .nilFunc).run Try.prog w = .ok (.bool false) w := fun _ => rfl
  clear h hk hks b1 V FV
  subst hkv
  have hp : (ptr p) = .pointer (some ⟨p, 0, none⟩) := rfl
  rw [hp]
  have s5 := run_store Try.prog (w.alloc (.cells #[.bool dn, .slice ka ks.length kc] 47)) ⟨p, 5, none⟩ .nilFunc .plain rfl
  simp only [y5, f5, Bool.false_eq_true, if_false] at s5
  have h2 := hdr_of HH.out (upd_set w p 5 .nilFunc) x.ops x.left false .nilFunc (HV0.out.set 5 _)
  have b2 := (Below.refl (w.setCell ⟨p, 5, none⟩ .nilFunc).heap.size (w.setCell ⟨p, 5, none⟩ .nilFunc)).alloc (Nat.le_refl _) (.cells #[.bool dn, .slice ka ks.length kc] 47)
  have k2 := h2.2.1.trans (Kee.bel b2)
  have HD2 : Hid (Dsk ((w.setCell ⟨p, 5, none⟩ .nilFunc).alloc (.cells #[.bool dn, .slice ka ks.length kc] 47)) B p m { x with ops := x.ops, left := x.left, on := false, und := .nilFunc }) := h2.1.step b2
  have HK2 := (show Hid _ from HK.out.kee HS.out k2)
  have HS2 : Hid (Safe ((w.setCell ⟨p, 5, none⟩ .nilFunc).alloc (.cells #[.bool dn, .slice ka ks.length kc] 47)) (.slice ka ks.length kc)) := HS.out.kee k2
  have HE2 := (show Hid _ from k2)
  have HL2 := (show Hid _ from h2.2.2.trans (b2.mono (by have := HB0.out; simp; omega)))
  clear b2 k2
  clear h2
  cases dn
  all_goals
    go_enter Try.func19, Try.ntmps19
    go_wp2_with (go_at_call 49; refine (settle_ok _ B p m _ HD2.out _ ks HK2.out hkl HS2.out).mono ?_; rintro r w3 ⟨⟨v, rfl⟩, ⟨ns, hpm, hsr, es', hab, hD⟩, hk3, hb3⟩; have y3 := hD.va.cell 2 (v := .bool false) rfl; have f3 := hD.va.free 2; have HD3 := (show Hid _ from hD); clear hD)
    go_ret
    have h4 := hdr_of HD3.out (upd_set w3 p 2 (.bool true)) x.ops x.left true .nilFunc (HD3.out.va.set 2 _)
    exact ⟨rfl, ⟨ns, hpm, hsr, es', hab, h4.1⟩, (HE2.out.trans hk3).trans h4.2.1, (HL2.out.trans hb3).trans h4.2.2⟩
end Go.Proofs.Ytakgkpiicigihaa
