/- disk XXVII: Restart, whatever was left undone. -/
import Derived.Test.YtkmdegmpffgplaaGreatDoorLar
namespace Go.Proofs.YtkmdegmpffgplaaGreatDoor
open Go.RowKit Go.Maps Go.Sort Go.Shelf pk
set_option linter.unusedVariables false

theorem restart_on (w : World) (B p m : Nat) (x : AD) (h : DA w B p m x) (dn : Bool) (a : Option Addr) (n c : Nat) (hon : x.on = true) :
    Calls Tryz.prog 27 #[ptr p, .agg #[.bool dn, .slice a n c]] w fun r w' => r = .returned (.int .i64 14) ∧ Lv w w' B p m x := by
  have HDA : Hid (DA w B p m x) := h
  obtain ⟨es, u0, hD, hab, hu, hun⟩ := h
  have b1 := (Below.refl w.heap.size w).alloc (Nat.le_refl _) (.cells #[.bool dn, .slice a n c] 67)
  have V := (hD.step b1).va
  have y2 := V.cell 2 (v := .bool x.on) rfl
  rw [hon] at y2
  have HB1 := (show Hid _ from b1)
  clear hD b1 V
  have hp : (ptr p) = .pointer (some ⟨p, 0, none⟩) := rfl
  rw [hp]
  go_enter Tryz.func27, Tryz.ntmps27
  go_wp2_with fail
  go_ret
  exact ⟨rfl, Lv.step HDA.out HB1.out⟩
set_option maxRecDepth 100000 in
theorem restart_not (w : World) (B p m : Nat) (x : DK) (h : Dsk w B p m x) (kv : Value) (ks : List Bool) (hk : Bl w kv ks) (hkl : ks.length ≤ 140737488355328) (hks : Safe w kv) (hoff : x.on = false) :
    Calls Tryz.prog 27 #[ptr p, .agg #[.bool false, kv]] w fun r w' => r = .returned (.int .i64 0) ∧ Rst w w' B p m x ks := by
  have HB0 : Hid (B ≤ w.heap.size) := (show B ≤ w.heap.size from Nat.le_trans h.lo.1 (Nat.le_of_lt h.va.lt))
  have b1 := (Below.refl w.heap.size w).alloc (Nat.le_refl _) (.cells #[.bool false, kv] 67)
  have HH := (show Hid _ from h)
  have HV0 : Hid (VA w p [.int .i64 x.room, .map (some m), .bool false, .int .i64 x.ops, .int .i64 x.left, x.und] 106) := by have := h.va; rw [hoff] at this; exact this
  have V := (h.step b1).va
  rw [hoff] at V
  have y2 := V.cell 2 (v := .bool false) rfl
  have y5 := V.cell 5 (v := x.und) rfl
  have f5 := V.free 5
  have FV := va_new w [.bool false, kv] 67
  have z0 := FV.cell 0 (v := .bool false) rfl
  have z1 := FV.cell 1 (v := kv) rfl
  obtain ⟨ka, kc, hkv, _⟩ := hk.form
  have HK : Hid (Bl w kv ks) := hk
  have HS : Hid (Safe w kv) := hks
  have HB1 := (show Hid _ from b1)
  have hlp := h.va.lt
  clear h hk hks b1 V FV
  subst hkv
  have hp : (ptr p) = .pointer (some ⟨p, 0, none⟩) := rfl
  rw [hp]
  have s5 := run_store Tryz.prog (w.alloc (.cells #[.bool false, .slice ka ks.length kc] 67)) ⟨p, 5, none⟩ .nilFunc .plain rfl
  simp only [y5, f5, Bool.false_eq_true, if_false] at s5
  have h2 := hdr_of HH.out (upd_set w p 5 .nilFunc) x.ops x.left false .nilFunc (HV0.out.set 5 _)
  have b2 := (Below.refl (w.setCell ⟨p, 5, none⟩ .nilFunc).heap.size (w.setCell ⟨p, 5, none⟩ .nilFunc)).alloc (Nat.le_refl _) (.cells #[.bool false, .slice ka ks.length kc] 67)
  have k2 := h2.2.1.trans (Kee.bel b2)
  have HD2 : Hid (Dsk ((w.setCell ⟨p, 5, none⟩ .nilFunc).alloc (.cells #[.bool false, .slice ka ks.length kc] 67)) B p m { x with ops := x.ops, left := x.left, on := false, und := .nilFunc }) := h2.1.step b2
  have HK2 := (show Hid _ from HK.out.kee HS.out k2)
  have HS2 : Hid (Safe ((w.setCell ⟨p, 5, none⟩ .nilFunc).alloc (.cells #[.bool false, .slice ka ks.length kc] 67)) (.slice ka ks.length kc)) := HS.out.kee k2
  have HE2 := (show Hid _ from k2)
  have HL2 := (show Hid _ from h2.2.2.trans (b2.mono (by have := HB0.out; simp; omega)))
  clear b2 k2
  clear h2
  go_enter Tryz.func27, Tryz.ntmps27
  go_wp2_with (go_at_call 57; refine (settle_ok _ B p m _ HD2.out _ ks HK2.out hkl HS2.out).mono ?_; rintro r w3 ⟨⟨v, rfl⟩, ⟨ns, hpm, hsr, es', hab, hD⟩, hk3, hb3⟩; have y3 := hD.va.cell 2 (v := .bool false) rfl; have f3 := hD.va.free 2; have HD3 := (show Hid _ from hD); clear hD)
  go_ret
  have h4 := hdr_of HD3.out (upd_set w3 p 2 (.bool true)) x.ops x.left true .nilFunc (HD3.out.va.set 2 _)
  exact ⟨rfl, ⟨ns, hpm, hsr, es', hab, h4.1⟩, (HE2.out.trans hk3).trans h4.2.1, (HL2.out.trans hb3).trans h4.2.2⟩
set_option maxRecDepth 100000 in
theorem restart_sync (w : World) (B p m : Nat) (x : DK) (h : Dsk w B p m x) (kv : Value) (ks : List Bool) (hk : Bl w kv ks) (hkl : ks.length ≤ 140737488355328) (hks : Safe w kv) (hoff : x.on = false) (Bf : Nat) (hu : x.und = .func (.func 91) #[] #[ptr Bf]) (fs1 : FS)
    (hcl : ∀ w1, Below w.heap.size w w1 → Calls Tryz.prog 91 #[ptr Bf] w1 fun r w' => (∃ v, r = .returned v) ∧ (∃ es1, Dsk w' B p m { x with es := es1 } ∧ ab es1 = fs1) ∧ Kee w1 w' ∧ Below B w1 w') :
    Calls Tryz.prog 27 #[ptr p, .agg #[.bool true, kv]] w fun r w' => r = .returned (.int .i64 0) ∧ (∃ ns, ns.Perm (fs1.map (·.1)) ∧ ns.Pairwise (fun a b => a ≤ b) ∧ ∃ es', ab es' = (stl ks ns fs1).1 ∧ Dsk w' B p m { x with on := true, und := .nilFunc, es := es' }) ∧ Kee w w' ∧ Below B w w' := by
  have HB0 : Hid (B ≤ w.heap.size) := (show B ≤ w.heap.size from Nat.le_trans h.lo.1 (Nat.le_of_lt h.va.lt))
  have b1 := (Below.refl w.heap.size w).alloc (Nat.le_refl _) (.cells #[.bool true, kv] 67)
  have HH := (show Hid _ from h)
  have hup : x.und = .func (.func 91) #[] #[.pointer (some ⟨Bf, 0, none⟩)] := hu
  have V := (h.step b1).va
  rw [hoff, hup] at V
  have y2 := V.cell 2 (v := .bool false) rfl
  have y5 := V.cell 5 (v := .func (.func 91) #[] #[.pointer (some ⟨Bf, 0, none⟩)]) rfl
  have FV := va_new w [.bool true, kv] 67
  have z0 := FV.cell 0 (v := .bool true) rfl
  have z1 := FV.cell 1 (v := kv) rfl
  obtain ⟨ka, kc, hkv, _⟩ := hk.form
  have HK : Hid (Bl w kv ks) := hk
  have HS : Hid (Safe w kv) := hks
  have HB1 := (show Hid _ from b1)
  have HFV := (show Hid _ from FV)
  have hff : ∀ w : World, (binOp .neq 1 (.func (.func 91) #[] #[.pointer (some ⟨Bf, 0, none⟩)]) .nilFunc).run Tryz.prog w = .ok (.bool true) w := fun _ => rfl
  have HC : Hid (Unit → ∀ w1, Below w.heap.size w w1 → Calls Tryz.prog 91 #[ptr Bf] w1 fun r w' => (∃ v, r = .returned v) ∧ (∃ es1, Dsk w' B p m { x with es := es1 } ∧ ab es1 = fs1) ∧ Kee w1 w' ∧ Below B w1 w') := fun _ => hcl
  clear h hk hks b1 V FV hcl
  subst hkv
  have hp : (ptr p) = .pointer (some ⟨p, 0, none⟩) := rfl
  rw [hp]
  go_enter Tryz.func27, Tryz.ntmps27
  go_wp2_with (go_at_call 91; refine (HC.out () _ HB1.out).mono ?_; rintro r w2 ⟨⟨v, rfl⟩, ⟨es1, hD2, hab1⟩, hk2, hb2⟩)
  have HA1 := (show Hid _ from hab1)
  have HK2 := (show Hid _ from (Kee.bel HB1.out).trans hk2)
  have HL2 := (show Hid _ from (HB1.out.mono HB0.out).trans hb2)
  have w5 := hD2.va.cell 5 (v := x.und) rfl
  have g5 := hD2.va.free 5
  have s5 := run_store Tryz.prog w2 ⟨p, 5, none⟩ .nilFunc .plain rfl
  simp only [w5, g5, Bool.false_eq_true, if_false] at s5
  have V2 := hD2.va
  rw [show DK.on { x with es := es1 } = false from hoff] at V2
  have h3 := hdr_of hD2 (upd_set w2 p 5 .nilFunc) x.ops x.left false .nilFunc (V2.set 5 _)
  have k3 := HK2.out.trans h3.2.1
  have FV3 := HFV.out.kee (hk2.trans h3.2.1) (by unfold Dt; decide)
  have z3 := FV3.cell 1 (v := .slice ka ks.length kc) rfl
  have HD3 := (show Hid _ from h3.1)
  have HS3 : Hid (Safe (w2.setCell ⟨p, 5, none⟩ .nilFunc) (.slice ka ks.length kc)) := HS.out.kee k3
  have HK3 : Hid (Bl (w2.setCell ⟨p, 5, none⟩ .nilFunc) (.slice ka ks.length kc) ks) := HK.out.kee HS.out k3
  have HE3 := (show Hid _ from k3)
  have HL3 := (show Hid _ from HL2.out.trans h3.2.2)
  clear hab1 hk2 hb2 hD2 V2 h3 k3 FV3 w5 g5
  go_wp2_with (go_at_call 57; refine (settle_ok _ B p m _ HD3.out _ ks HK3.out hkl HS3.out).mono ?_; rintro r w4 ⟨⟨v, rfl⟩, ⟨ns, hpm, hsr, es', hab, hD⟩, hk4, hb4⟩; have y3 := hD.va.cell 2 (v := .bool false) rfl; have f3 := hD.va.free 2; have HD4 := (show Hid _ from hD); clear hD)
  go_ret
  have h5 := hdr_of HD4.out (upd_set w4 p 2 (.bool true)) x.ops x.left true .nilFunc (HD4.out.va.set 2 _)
  have hpm' : ns.Perm (es1.map (·.nm)) := hpm
  have hab' : ab es' = (stl ks ns (ab es1)).1 := hab
  rw [names_ab, HA1.out] at hpm'
  rw [HA1.out] at hab'
  exact ⟨rfl, ⟨ns, hpm', hsr, es', hab', h5.1⟩, (HE3.out.trans hk4).trans h5.2.1, (HL3.out.trans hb4).trans h5.2.2⟩
set_option maxRecDepth 100000 in
theorem restart_trunc (w : World) (B p m : Nat) (x : DK) (h : Dsk w B p m x) (kv : Value) (ks : List Bool) (hk : Bl w kv ks) (hkl : ks.length ≤ 140737488355328) (hks : Safe w kv) (hoff : x.on = false) (Bf Bn : Nat) (hu : x.und = .func (.func 113) #[] #[ptr Bf, ptr Bn]) (fs1 : FS)
    (hcl : ∀ w1, Below w.heap.size w w1 → Calls Tryz.prog 113 #[ptr Bf, ptr Bn] w1 fun r w' => (∃ v, r = .returned v) ∧ (∃ es1, Dsk w' B p m { x with es := es1 } ∧ ab es1 = fs1) ∧ Kee w1 w' ∧ Below B w1 w') :
    Calls Tryz.prog 27 #[ptr p, .agg #[.bool true, kv]] w fun r w' => r = .returned (.int .i64 0) ∧ (∃ ns, ns.Perm (fs1.map (·.1)) ∧ ns.Pairwise (fun a b => a ≤ b) ∧ ∃ es', ab es' = (stl ks ns fs1).1 ∧ Dsk w' B p m { x with on := true, und := .nilFunc, es := es' }) ∧ Kee w w' ∧ Below B w w' := by
  have HB0 : Hid (B ≤ w.heap.size) := (show B ≤ w.heap.size from Nat.le_trans h.lo.1 (Nat.le_of_lt h.va.lt))
  have b1 := (Below.refl w.heap.size w).alloc (Nat.le_refl _) (.cells #[.bool true, kv] 67)
  have HH := (show Hid _ from h)
  have hup : x.und = .func (.func 113) #[] #[.pointer (some ⟨Bf, 0, none⟩), .pointer (some ⟨Bn, 0, none⟩)] := hu
  have V := (h.step b1).va
  rw [hoff, hup] at V
  have y2 := V.cell 2 (v := .bool false) rfl
  have y5 := V.cell 5 (v := .func (.func 113) #[] #[.pointer (some ⟨Bf, 0, none⟩), .pointer (some ⟨Bn, 0, none⟩)]) rfl
  have FV := va_new w [.bool true, kv] 67
  have z0 := FV.cell 0 (v := .bool true) rfl
  have z1 := FV.cell 1 (v := kv) rfl
  obtain ⟨ka, kc, hkv, _⟩ := hk.form
  have HK : Hid (Bl w kv ks) := hk
  have HS : Hid (Safe w kv) := hks
  have HB1 := (show Hid _ from b1)
  have HFV := (show Hid _ from FV)
  have hff : ∀ w : World, (binOp .neq 1 (.func (.func 113) #[] #[.pointer (some ⟨Bf, 0, none⟩), .pointer (some ⟨Bn, 0, none⟩)]) .nilFunc).run Tryz.prog w = .ok (.bool true) w := fun _ => rfl
  have HC : Hid (Unit → ∀ w1, Below w.heap.size w w1 → Calls Tryz.prog 113 #[ptr Bf, ptr Bn] w1 fun r w' => (∃ v, r = .returned v) ∧ (∃ es1, Dsk w' B p m { x with es := es1 } ∧ ab es1 = fs1) ∧ Kee w1 w' ∧ Below B w1 w') := fun _ => hcl
  clear h hk hks b1 V FV hcl
  subst hkv
  have hp : (ptr p) = .pointer (some ⟨p, 0, none⟩) := rfl
  rw [hp]
  go_enter Tryz.func27, Tryz.ntmps27
  go_wp2_with (go_at_call 113; refine (HC.out () _ HB1.out).mono ?_; rintro r w2 ⟨⟨v, rfl⟩, ⟨es1, hD2, hab1⟩, hk2, hb2⟩)
  have HA1 := (show Hid _ from hab1)
  have HK2 := (show Hid _ from (Kee.bel HB1.out).trans hk2)
  have HL2 := (show Hid _ from (HB1.out.mono HB0.out).trans hb2)
  have w5 := hD2.va.cell 5 (v := x.und) rfl
  have g5 := hD2.va.free 5
  have s5 := run_store Tryz.prog w2 ⟨p, 5, none⟩ .nilFunc .plain rfl
  simp only [w5, g5, Bool.false_eq_true, if_false] at s5
  have V2 := hD2.va
  rw [show DK.on { x with es := es1 } = false from hoff] at V2
  have h3 := hdr_of hD2 (upd_set w2 p 5 .nilFunc) x.ops x.left false .nilFunc (V2.set 5 _)
  have k3 := HK2.out.trans h3.2.1
  have FV3 := HFV.out.kee (hk2.trans h3.2.1) (by unfold Dt; decide)
  have z3 := FV3.cell 1 (v := .slice ka ks.length kc) rfl
  have HD3 := (show Hid _ from h3.1)
  have HS3 : Hid (Safe (w2.setCell ⟨p, 5, none⟩ .nilFunc) (.slice ka ks.length kc)) := HS.out.kee k3
  have HK3 : Hid (Bl (w2.setCell ⟨p, 5, none⟩ .nilFunc) (.slice ka ks.length kc) ks) := HK.out.kee HS.out k3
  have HE3 := (show Hid _ from k3)
  have HL3 := (show Hid _ from HL2.out.trans h3.2.2)
  clear hab1 hk2 hb2 hD2 V2 h3 k3 FV3 w5 g5
  go_wp2_with (go_at_call 57; refine (settle_ok _ B p m _ HD3.out _ ks HK3.out hkl HS3.out).mono ?_; rintro r w4 ⟨⟨v, rfl⟩, ⟨ns, hpm, hsr, es', hab, hD⟩, hk4, hb4⟩; have y3 := hD.va.cell 2 (v := .bool false) rfl; have f3 := hD.va.free 2; have HD4 := (show Hid _ from hD); clear hD)
  go_ret
  have h5 := hdr_of HD4.out (upd_set w4 p 2 (.bool true)) x.ops x.left true .nilFunc (HD4.out.va.set 2 _)
  have hpm' : ns.Perm (es1.map (·.nm)) := hpm
  have hab' : ab es' = (stl ks ns (ab es1)).1 := hab
  rw [names_ab, HA1.out] at hpm'
  rw [HA1.out] at hab'
  exact ⟨rfl, ⟨ns, hpm', hsr, es', hab', h5.1⟩, (HE3.out.trans hk4).trans h5.2.1, (HL3.out.trans hb4).trans h5.2.2⟩
set_option maxRecDepth 100000 in
theorem restart_rem (w : World) (B p m : Nat) (x : DK) (h : Dsk w B p m x) (kv : Value) (ks : List Bool) (hk : Bl w kv ks) (hkl : ks.length ≤ 140737488355328) (hks : Safe w kv) (hoff : x.on = false) (Bd Ba : Nat) (hu : x.und = .func (.func 79) #[] #[ptr Bd, ptr Ba]) (fs1 : FS)
    (hcl : ∀ w1, Below w.heap.size w w1 → Calls Tryz.prog 79 #[ptr Bd, ptr Ba] w1 fun r w' => (∃ v, r = .returned v) ∧ (∃ es1, Dsk w' B p m { x with es := es1 } ∧ ab es1 = fs1) ∧ Kee w1 w' ∧ Below B w1 w') :
    Calls Tryz.prog 27 #[ptr p, .agg #[.bool true, kv]] w fun r w' => r = .returned (.int .i64 0) ∧ (∃ ns, ns.Perm (fs1.map (·.1)) ∧ ns.Pairwise (fun a b => a ≤ b) ∧ ∃ es', ab es' = (stl ks ns fs1).1 ∧ Dsk w' B p m { x with on := true, und := .nilFunc, es := es' }) ∧ Kee w w' ∧ Below B w w' := by
  have HB0 : Hid (B ≤ w.heap.size) := (show B ≤ w.heap.size from Nat.le_trans h.lo.1 (Nat.le_of_lt h.va.lt))
  have b1 := (Below.refl w.heap.size w).alloc (Nat.le_refl _) (.cells #[.bool true, kv] 67)
  have HH := (show Hid _ from h)
  have hup : x.und = .func (.func 79) #[] #[.pointer (some ⟨Bd, 0, none⟩), .pointer (some ⟨Ba, 0, none⟩)] := hu
  have V := (h.step b1).va
  rw [hoff, hup] at V
  have y2 := V.cell 2 (v := .bool false) rfl
  have y5 := V.cell 5 (v := .func (.func 79) #[] #[.pointer (some ⟨Bd, 0, none⟩), .pointer (some ⟨Ba, 0, none⟩)]) rfl
  have FV := va_new w [.bool true, kv] 67
  have z0 := FV.cell 0 (v := .bool true) rfl
  have z1 := FV.cell 1 (v := kv) rfl
  obtain ⟨ka, kc, hkv, _⟩ := hk.form
  have HK : Hid (Bl w kv ks) := hk
  have HS : Hid (Safe w kv) := hks
  have HB1 := (show Hid _ from b1)
  have HFV := (show Hid _ from FV)
  have hff : ∀ w : World, (binOp .neq 1 (.func (.func 79) #[] #[.pointer (some ⟨Bd, 0, none⟩), .pointer (some ⟨Ba, 0, none⟩)]) .nilFunc).run Tryz.prog w = .ok (.bool true) w := fun _ => rfl
  have HC : Hid (Unit → ∀ w1, Below w.heap.size w w1 → Calls Tryz.prog 79 #[ptr Bd, ptr Ba] w1 fun r w' => (∃ v, r = .returned v) ∧ (∃ es1, Dsk w' B p m { x with es := es1 } ∧ ab es1 = fs1) ∧ Kee w1 w' ∧ Below B w1 w') := fun _ => hcl
  clear h hk hks b1 V FV hcl
  subst hkv
  have hp : (ptr p) = .pointer (some ⟨p, 0, none⟩) := rfl
  rw [hp]
  go_enter Tryz.func27, Tryz.ntmps27
  go_wp2_with (go_at_call 79; refine (HC.out () _ HB1.out).mono ?_; rintro r w2 ⟨⟨v, rfl⟩, ⟨es1, hD2, hab1⟩, hk2, hb2⟩)
  have HA1 := (show Hid _ from hab1)
  have HK2 := (show Hid _ from (Kee.bel HB1.out).trans hk2)
  have HL2 := (show Hid _ from (HB1.out.mono HB0.out).trans hb2)
  have w5 := hD2.va.cell 5 (v := x.und) rfl
  have g5 := hD2.va.free 5
  have s5 := run_store Tryz.prog w2 ⟨p, 5, none⟩ .nilFunc .plain rfl
  simp only [w5, g5, Bool.false_eq_true, if_false] at s5
  have V2 := hD2.va
  rw [show DK.on { x with es := es1 } = false from hoff] at V2
  have h3 := hdr_of hD2 (upd_set w2 p 5 .nilFunc) x.ops x.left false .nilFunc (V2.set 5 _)
  have k3 := HK2.out.trans h3.2.1
  have FV3 := HFV.out.kee (hk2.trans h3.2.1) (by unfold Dt; decide)
  have z3 := FV3.cell 1 (v := .slice ka ks.length kc) rfl
  have HD3 := (show Hid _ from h3.1)
  have HS3 : Hid (Safe (w2.setCell ⟨p, 5, none⟩ .nilFunc) (.slice ka ks.length kc)) := HS.out.kee k3
  have HK3 : Hid (Bl (w2.setCell ⟨p, 5, none⟩ .nilFunc) (.slice ka ks.length kc) ks) := HK.out.kee HS.out k3
  have HE3 := (show Hid _ from k3)
  have HL3 := (show Hid _ from HL2.out.trans h3.2.2)
  clear hab1 hk2 hb2 hD2 V2 h3 k3 FV3 w5 g5
  go_wp2_with (go_at_call 57; refine (settle_ok _ B p m _ HD3.out _ ks HK3.out hkl HS3.out).mono ?_; rintro r w4 ⟨⟨v, rfl⟩, ⟨ns, hpm, hsr, es', hab, hD⟩, hk4, hb4⟩; have y3 := hD.va.cell 2 (v := .bool false) rfl; have f3 := hD.va.free 2; have HD4 := (show Hid _ from hD); clear hD)
  go_ret
  have h5 := hdr_of HD4.out (upd_set w4 p 2 (.bool true)) x.ops x.left true .nilFunc (HD4.out.va.set 2 _)
  have hpm' : ns.Perm (es1.map (·.nm)) := hpm
  have hab' : ab es' = (stl ks ns (ab es1)).1 := hab
  rw [names_ab, HA1.out] at hpm'
  rw [HA1.out] at hab'
  exact ⟨rfl, ⟨ns, hpm', hsr, es', hab', h5.1⟩, (HE3.out.trans hk4).trans h5.2.1, (HL3.out.trans hb4).trans h5.2.2⟩
/-- the files when the power comes again, ahead of what is lost -/
def doUnd (x : AD) (dn : Bool) : FS := if dn then (match x.und with | none => x.fs | some o => doOp o x.fs) else x.fs
theorem restart_off (w : World) (B p m : Nat) (x : AD) (h : DA w B p m x) (dn : Bool) (kv : Value) (ks : List Bool) (hk : Bl w kv ks) (hkl : ks.length ≤ 140737488355328) (hks : Safe w kv) (hoff : x.on = false) :
    Calls Tryz.prog 27 #[ptr p, .agg #[.bool dn, kv]] w fun r w' => r = .returned (.int .i64 0) ∧ ∃ ns, ns.Perm ((doUnd x dn).map (·.1)) ∧ ns.Pairwise (fun a b => a ≤ b) ∧ Lv w w' B p m { x with on := true, und := none, fs := (stl ks ns (doUnd x dn)).1 } := by
  obtain ⟨es, u0, hD, hab, hu, hun⟩ := h
  have hfin : ∀ (r : Ending) (w' : World) (fs1 : FS), fs1 = doUnd x dn → r = .returned (.int .i64 0) → (∃ ns, ns.Perm (fs1.map (·.1)) ∧ ns.Pairwise (fun a b => a ≤ b) ∧ ∃ es', ab es' = (stl ks ns fs1).1 ∧ Dsk w' B p m ⟨x.room, x.ops, x.left, true, .nilFunc, es'⟩) → Kee w w' → Below B w w' →
      r = .returned (.int .i64 0) ∧ ∃ ns, ns.Perm ((doUnd x dn).map (·.1)) ∧ ns.Pairwise (fun a b => a ≤ b) ∧ Lv w w' B p m { x with on := true, und := none, fs := (stl ks ns (doUnd x dn)).1 } := by
    rintro r w' fs1 rfl hr ⟨ns, h1, h2, es', h3, h4⟩ h5 h6
    exact ⟨hr, ns, h1, h2, ⟨es', .nilFunc, h4, h3, rfl, fun _ => rfl⟩, h5, h6⟩
  cases dn with
  | false =>
    refine (restart_not w B p m _ hD kv ks hk hkl hks hoff).mono ?_
    rintro r w' ⟨hr, ⟨ns, h1, h2, es', h3, h4⟩, h5, h6⟩
    have h1' : ns.Perm (es.map (·.nm)) := h1
    have h3' : ab es' = (stl ks ns (ab es)).1 := h3
    rw [names_ab, hab] at h1'
    rw [hab] at h3'
    exact hfin r w' x.fs rfl hr ⟨ns, h1', h2, es', h3', h4⟩ h5 h6
  | true =>
    cases hq : x.und with
    | none =>
      have hu0 : u0 = .nilFunc := by rw [hq] at hu; exact hu
      subst hu0
      refine (restart_ok w B p m _ hD true kv ks hk hkl hks hoff rfl).mono ?_
      rintro r w' ⟨hr, ⟨ns, h1, h2, es', h3, h4⟩, h5, h6⟩
      have h1' : ns.Perm (es.map (·.nm)) := h1
      have h3' : ab es' = (stl ks ns (ab es)).1 := h3
      rw [names_ab, hab] at h1'
      rw [hab] at h3'
      exact hfin r w' x.fs (by unfold doUnd; rw [hq]; rfl) hr ⟨ns, h1', h2, es', h3', h4⟩ h5 h6
    | some q =>
      rw [hq] at hu
      have hdo : doOp q x.fs = doUnd x true := by unfold doUnd; rw [hq]; rfl
      obtain ⟨k, a, b, n⟩ := q
      rcases hu with ⟨hk1, Bf, f, hf, hu, h4⟩ | ⟨hk1, hn, Bf, Bn, f, hf, hu, h4, h5⟩ | ⟨hk1, hn, Bd, Ba, Bf, Bb, f, hf, hu, h4, h5, h6, h7⟩ | ⟨hk1, Bd, Ba, f, hf, hu, h4, h5⟩
      · have hk1' : k = 1 := hk1
        subst hk1'
        have hf' : fd es a = some f := hf
        obtain ⟨l1, l2, hx, hnm, hl1⟩ := fd_split hf'
        refine (restart_sync w B p m _ hD kv ks hk hkl hks hoff Bf hu (doOp ⟨1, a, b, n⟩ x.fs) (fun w1 b1 => ?_)).mono (fun r w' ⟨hr, h1, h2, h3⟩ => hfin r w' _ hdo hr h1 h2 h3)
        have hfl := (hD.step b1).fil f (fd_mem hf').1
        refine (sync1_ok w1 B Bf f hfl (h4.kee (Kee.bel b1) (by unfold Dt; decide)) (hD.flen hx)).mono ?_
        rintro r w' ⟨hr, hc⟩
        obtain ⟨es1, hD1, hab1⟩ := (hD.step b1).chf hx hc (Nat.le_refl _)
        refine ⟨hr, ⟨es1, hD1, ?_⟩, hc.kee hfl, hc.bel hfl (Nat.le_trans hD.lo.1 (Nat.le_trans (Nat.le_of_lt hD.va.lt) b1.size))⟩
        rw [hab1]
        show upd1 (ab es) f.nm f.ss f.ss.length = _
        rw [upd1_sync hD.ap hf' b n, hab]
      · have hk1' : k = 2 := hk1
        subst hk1'
        have hf' : fd es a = some f := hf
        obtain ⟨l1, l2, hx, hnm, hl1⟩ := fd_split hf'
        refine (restart_trunc w B p m _ hD kv ks hk hkl hks hoff Bf Bn hu (doOp ⟨2, a, b, n⟩ x.fs) (fun w1 b1 => ?_)).mono (fun r w' ⟨hr, h1, h2, h3⟩ => hfin r w' _ hdo hr h1 h2 h3)
        have hfl := (hD.step b1).fil f (fd_mem hf').1
        have hBl : B ≤ w1.heap.size := Nat.le_trans hD.lo.1 (Nat.le_trans (Nat.le_of_lt hD.va.lt) b1.size)
        refine (trunc1_ok w1 B Bf Bn f hfl (h4.kee (Kee.bel b1) (by unfold Dt; decide)) n hn (h5.kee (Kee.bel b1) (by unfold Dt; decide)) (hD.flen hx) hBl).mono ?_
        rintro r w' ⟨hr, hc⟩
        obtain ⟨es1, hD1, hab1⟩ := (hD.step b1).chf hx hc (by rw [List.length_take]; omega)
        refine ⟨hr, ⟨es1, hD1, ?_⟩, hc.kee hfl, hc.bel hfl hBl⟩
        rw [hab1]
        show upd1 (ab es) f.nm (f.ss.take n) (min n f.ss.length) = _
        rw [upd1_trunc hD.ap hf' b n, hab]
      · have hk1' : k = 4 := hk1
        subst hk1'
        have hf' : fd es a = some f := hf
        have ha16 : a.length ≤ 16 := by
          have := (hD.fil f (fd_mem hf').1).nm
          rw [(fd_mem hf').2] at this
          exact this
        refine (restart_rem w B p m _ hD kv ks hk hkl hks hoff Bd Ba hu (doOp ⟨4, a, b, n⟩ x.fs) (fun w1 b1 => ?_)).mono (fun r w' ⟨hr, h1, h2, h3⟩ => hfin r w' _ hdo hr h1 h2 h3)
        refine (rem1_ok w1 B p m _ (hD.step b1) Bd Ba ⟨a.toArray⟩ (by show a.toArray.size ≤ 16; simpa using ha16) (h4.kee (Kee.bel b1) (by unfold Dt; decide)) (h5.kee (Kee.bel b1) (by unfold Dt; decide))).mono ?_
        rintro r w' ⟨hr, hD1, hk', hb'⟩
        refine ⟨hr, ⟨_, hD1, ?_⟩, hk', hb'⟩
        rw [← hab, ← ab_rem es a b n]
end Go.Proofs.YtkmdegmpffgplaaGreatDoor
/- disk XXVIII: New, Append, Read, Size, Names, Arm, On, Ops, whatever comes. -/
namespace Go.Proofs.YtkmdegmpffgplaaGreatDoor
open Go.RowKit Go.Maps Go.Sort Go.Shelf pk
set_option linter.unusedVariables false

/-- what Append answers, and leaves -/
def apnd (x : AD) (l : List UInt8) (bs : List Nat) : Nat × AD :=
  if isNm l = false then (1, x)
  else if fitA x.room x.fs l (cnt bs.length) = false then (17, x)
  else if x.on = false then (18, x)
  else (if (begA x).on then 0 else 18, { begA x with fs := apd x.fs l (parts bs) })
theorem append_any (w : World) (B p m : Nat) (x : AD) (h : DA w B p m x) (s : ByteArray) (hs : s.size ≤ 9223372036854775807) (v : Value) (bs : List Nat) (hb : Bs w v bs) (hsf : Safe w v) (hl : bs.length ≤ 140737488355328) (ho : x.ops ≤ 4611686018427387904) (hlf : x.left ≤ 9223372036854775807) :
    Calls Tryz.prog 20 #[ptr p, .string s, v] w fun r w' => r = .returned (.int .i64 ((apnd x s.data.toList bs).1 : Nat)) ∧ Lv w w' B p m (apnd x s.data.toList bs).2 := by
  have HDA : Hid (DA w B p m x) := h
  obtain ⟨es, u0, hD, hab, hu, hun⟩ := h
  have HD := (show Hid _ from hD)
  have hfa : fit ⟨x.room, x.ops, x.left, x.on, u0, es⟩ s.data.toList (cnt bs.length) = fitA x.room x.fs s.data.toList (cnt bs.length) := by rw [fit_ab]; show fitA x.room (ab es) _ _ = _; rw [hab]
  have hp : (ptr p) = .pointer (some ⟨p, 0, none⟩) := rfl
  cases hn : isNm s.data.toList with
  | false =>
    have e1 : apnd x s.data.toList bs = (1, x) := by unfold apnd; rw [if_pos hn]
    rw [e1, hp]
    obtain ⟨hby, a, c, rfl, _⟩ := hb
    clear hD
    go_enter Tryz.func20, Tryz.ntmps20
    go_wp2_with (go_at_call 51; refine (isName_ok s _ hs).mono ?_; rintro e w1 ⟨rfl, rfl⟩; rw [hn])
    go_ret
    exact ⟨rfl, Lv.same HDA.out⟩
  | true =>
    have hs6 := nm_size hn
    cases hft : fitA x.room x.fs s.data.toList (cnt bs.length) with
    | false =>
      have e1 : apnd x s.data.toList bs = (17, x) := by unfold apnd; rw [if_neg (by rw [hn]; simp), if_pos hft]
      rw [e1]
      refine (append_full w B p m _ hD s (by omega) hn v bs hb hl (by rw [hfa]; exact hft)).mono ?_
      rintro e w' ⟨rfl, hbl⟩
      exact ⟨rfl, Lv.step HDA.out hbl⟩
    | true =>
      cases hon : x.on with
      | false =>
        have e1 : apnd x s.data.toList bs = (18, x) := by unfold apnd; rw [if_neg (by rw [hn]; simp), if_neg (by rw [hft]; simp), if_pos hon]
        rw [e1, hp]
        have HBS := (show Hid _ from hb)
        obtain ⟨hby, a, c, rfl, _⟩ := hb
        clear hD hby
        go_enter Tryz.func20, Tryz.ntmps20
        go_wp2_with (first | (go_at_call 51; refine (isName_ok s _ hs).mono ?_; rintro e w1 ⟨rfl, hw1⟩; obtain rfl := hw1.symm; rw [hn]) | (go_at_call 52; refine (fits_ok _ B p m _ HD.out s (by omega) _ bs HBS.out hl).mono ?_; rintro e w2 ⟨rfl, b2⟩; rw [hfa, hft]; have y2 := (HD.out.step b2).va.cell 2 (v := .bool x.on) rfl; rw [hon] at y2))
        go_ret
        exact ⟨rfl, Lv.step HDA.out b2⟩
      | true =>
        have e1 : apnd x s.data.toList bs = (if (begA x).on then 0 else 18, { begA x with fs := apd x.fs s.data.toList (parts bs) }) := by unfold apnd; rw [if_neg (by rw [hn]; simp), if_neg (by rw [hft]; simp), if_neg (by rw [hon]; simp)]
        rw [e1]
        have hu0 : u0 = .nilFunc := by rw [hun hon] at hu; exact hu
        refine (append_ok w B p m _ hD s (by omega) hn v bs hb hsf hl (by rw [hfa]; exact hft) hon ho hlf).mono ?_
        rintro e w' ⟨rfl, ⟨es', hab', hD'⟩, hk, hbl⟩
        refine ⟨?_, ⟨es', u0, hD', ?_, ?_, fun _ => hun hon⟩, hk, hbl⟩
        · show Ending.returned (.int .i64 (if (begA x).on = true then 0 else 18)) = Ending.returned (.int .i64 ((if (begA x).on = true then 0 else 18 : Nat) : Int))
          cases (begA x).on <;> rfl
        · rw [hab']
          show apd (ab es) _ _ = _
          rw [hab]
        · show Und w' p es' x.und u0
          rw [hun hon]
          exact hu0
/-- what Read and Size say -/
def seen (x : AD) (l : List UInt8) : Nat × List (List Nat) :=
  if isNm l = false then (1, []) else match lk x.fs l with
  | none => (7, [])
  | some t => if x.on then (0, t.2.1) else (18, [])
theorem read_any (w : World) (B p m : Nat) (x : AD) (h : DA w B p m x) (s : ByteArray) (hs : s.size ≤ 9223372036854775807) :
    Calls Tryz.prog 22 #[ptr p, .string s] w fun e w' => (∃ u, e = .returned (.tuple #[u, .int .i64 ((seen x s.data.toList).1 : Nat)]) ∧ OwnB w' w.heap.size u (flat (seen x s.data.toList).2)) ∧ Below w.heap.size w w' := by
  obtain ⟨es, u0, hD, hab, hu, hun⟩ := h
  have HD := (show Hid _ from hD)
  have hp : (ptr p) = .pointer (some ⟨p, 0, none⟩) := rfl
  cases hn : isNm s.data.toList with
  | false =>
    have e1 : seen x s.data.toList = (1, []) := by unfold seen; rw [if_pos hn]
    rw [e1, hp]
    clear hD
    go_enter Tryz.func22, Tryz.ntmps22
    go_wp2_with (go_at_call 55; refine (find_bad' _ _ s hs hn).mono ?_; rintro e w1 ⟨rfl, rfl⟩)
    refine bodyPost_ret (v := .tuple #[.slice none 0 0, .int .i64 1]) (by simp [results, Tryz.results22, go_sem]) rfl ?_
    exact ⟨⟨_, rfl, pk.own_nil _ _⟩, Below.refl _ _⟩
  | true =>
    have hs6 := nm_size hn
    cases hf : fd es s.data.toList with
    | none =>
      have e1 : seen x s.data.toList = (7, []) := by unfold seen; rw [if_neg (by rw [hn]; simp), ← hab, lk_ab, hf]; rfl
      rw [e1, hp]
      clear hD
      go_enter Tryz.func22, Tryz.ntmps22
      go_wp2_with (go_at_call 55; refine (find_none _ B p m _ HD.out s (by omega) hn hf).mono ?_; rintro e w1 ⟨rfl, rfl⟩)
      refine bodyPost_ret (v := .tuple #[.slice none 0 0, .int .i64 7]) (by simp [results, Tryz.results22, go_sem]) rfl ?_
      exact ⟨⟨_, rfl, pk.own_nil _ _⟩, Below.refl _ _⟩
    | some f =>
      cases hon : x.on with
      | false =>
        have e1 : seen x s.data.toList = (18, []) := by unfold seen; rw [if_neg (by rw [hn]; simp), ← hab, lk_ab, hf]; simp [hon]
        rw [e1, hp]
        have y2 := hD.va.cell 2 (v := .bool x.on) rfl
        rw [hon] at y2
        clear hD
        go_enter Tryz.func22, Tryz.ntmps22
        go_wp2_with (go_at_call 55; refine (find_some _ B p m _ HD.out s (by omega) hn f hf).mono ?_; rintro e w1 ⟨rfl, rfl⟩; unfold ptr)
        refine bodyPost_ret (v := .tuple #[.slice none 0 0, .int .i64 18]) (by simp [results, Tryz.results22, go_sem]) rfl ?_
        exact ⟨⟨_, rfl, pk.own_nil _ _⟩, Below.refl _ _⟩
      | true =>
        have e1 : seen x s.data.toList = (0, f.ss) := by unfold seen; rw [if_neg (by rw [hn]; simp), ← hab, lk_ab, hf]; simp [hon]
        rw [e1]
        exact read_ok w B p m _ hD s (by omega) hn f hf hon
theorem size_any (w : World) (B p m : Nat) (x : AD) (h : DA w B p m x) (s : ByteArray) (hs : s.size ≤ 9223372036854775807) :
    Calls Tryz.prog 24 #[ptr p, .string s] w fun e w' => e = .returned (.tuple #[.int .i64 (((seen x s.data.toList).2.length : Nat) : Int), .int .i64 ((seen x s.data.toList).1 : Nat)]) ∧ w' = w := by
  obtain ⟨es, u0, hD, hab, hu, hun⟩ := h
  have HD := (show Hid _ from hD)
  have hp : (ptr p) = .pointer (some ⟨p, 0, none⟩) := rfl
  cases hn : isNm s.data.toList with
  | false =>
    have e1 : seen x s.data.toList = (1, []) := by unfold seen; rw [if_pos hn]
    rw [e1, hp]
    clear hD
    go_enter Tryz.func24, Tryz.ntmps24
    go_wp2_with (go_at_call 55; refine (find_bad' _ _ s hs hn).mono ?_; rintro e w1 ⟨rfl, rfl⟩)
    refine bodyPost_ret (v := .tuple #[.int .i64 0, .int .i64 1]) (by simp [results, Tryz.results24, go_sem]) rfl ?_
    exact ⟨rfl, rfl⟩
  | true =>
    have hs6 := nm_size hn
    cases hf : fd es s.data.toList with
    | none =>
      have e1 : seen x s.data.toList = (7, []) := by unfold seen; rw [if_neg (by rw [hn]; simp), ← hab, lk_ab, hf]; rfl
      rw [e1]
      exact size_none w B p m _ hD s (by omega) hn hf
    | some f =>
      cases hon : x.on with
      | false =>
        have e1 : seen x s.data.toList = (18, []) := by unfold seen; rw [if_neg (by rw [hn]; simp), ← hab, lk_ab, hf]; simp [hon]
        rw [e1, hp]
        have y2 := hD.va.cell 2 (v := .bool x.on) rfl
        rw [hon] at y2
        clear hD
        go_enter Tryz.func24, Tryz.ntmps24
        go_wp2_with (go_at_call 55; refine (find_some _ B p m _ HD.out s (by omega) hn f hf).mono ?_; rintro e w1 ⟨rfl, rfl⟩; unfold ptr)
        refine bodyPost_ret (v := .tuple #[.int .i64 0, .int .i64 18]) (by simp [results, Tryz.results24, go_sem]) rfl ?_
        exact ⟨rfl, rfl⟩
      | true =>
        have e1 : seen x s.data.toList = (0, f.ss) := by unfold seen; rw [if_neg (by rw [hn]; simp), ← hab, lk_ab, hf]; simp [hon]
        rw [e1]
        exact size_ok w B p m _ hD s (by omega) hn f hf hon
theorem on_any (w : World) (B p m : Nat) (x : AD) (h : DA w B p m x) : Calls Tryz.prog 25 #[ptr p] w fun e w' => e = .returned (.bool x.on) ∧ w' = w := by
  obtain ⟨es, u0, hD, _⟩ := h
  exact on_ok w B p m _ hD
theorem ops_any (w : World) (B p m : Nat) (x : AD) (h : DA w B p m x) : Calls Tryz.prog 21 #[ptr p] w fun e w' => e = .returned (.int .i64 x.ops) ∧ w' = w := by
  obtain ⟨es, u0, hD, _⟩ := h
  exact ops_ok w B p m _ hD
/-- the names, or none -/
theorem names_any (w : World) (B p m : Nat) (x : AD) (h : DA w B p m x) :
    Calls Tryz.prog 40 #[ptr p] w fun e w' => ∃ v ns, e = .returned v ∧ (x.on = true → ns.Perm (x.fs.map (·.1))) ∧ (x.on = false → ns = []) ∧ ns.Pairwise (fun a b => a ≤ b) ∧ OwnN w' w.heap.size v ns ∧ (v = .slice none 0 0 ↔ ns = []) ∧ Below w.heap.size w w' := by
  have HDA : Hid (DA w B p m x) := h
  obtain ⟨es, u0, hD, hab, _⟩ := h
  have HD := (show Hid _ from hD)
  clear hD
  have hp : (ptr p) = .pointer (some ⟨p, 0, none⟩) := rfl
  rw [hp]
  cases hon : x.on with
  | false =>
    go_enter Tryz.func40, Tryz.ntmps40
    go_wp2_with (go_at_call 25; refine (on_any _ B p m x HDA.out).mono ?_; rintro e w1 ⟨rfl, rfl⟩; rw [hon])
    go_ret
    exact ⟨_, [], rfl, fun e => (by cases e), fun _ => rfl, List.Pairwise.nil, World.ownsRow_nil _ _ _ _, ⟨fun _ => rfl, fun _ => rfl⟩, Below.refl _ _⟩
  | true =>
    go_enter Tryz.func40, Tryz.ntmps40
    go_wp2_with (first | (go_at_call 25; refine (on_any _ B p m x HDA.out).mono ?_; rintro e w1 ⟨rfl, rfl⟩; rw [hon]) | (go_at_call 77; refine (sorted_ok _ B p m _ HD.out).mono ?_; rintro e w2 ⟨v, ns, rfl, hpm, hsr, hown, hnil, hb⟩))
    go_ret
    have hpm' : ns.Perm (es.map (·.nm)) := hpm
    rw [names_ab, hab] at hpm'
    exact ⟨v, ns, rfl, fun _ => hpm', fun e => (by cases e), hsr, hown, hnil, hb⟩
theorem arm_any (w : World) (B p m : Nat) (x : AD) (h : DA w B p m x) (n : Nat) (hn : n ≤ 9223372036854775807) :
    Calls Tryz.prog 26 #[ptr p, .int .i64 (n : Int)] w fun e w' => e = .returned (.int .i64 ((if x.on then 0 else 18 : Nat) : Int)) ∧ Lv w w' B p m (if x.on then { x with left := n } else x) := by
  have HDA : Hid (DA w B p m x) := h
  obtain ⟨es, u0, hD, hab, hu, hun⟩ := h
  cases hon : x.on with
  | false =>
    refine (arm_off w B p m _ hD n hn hon).mono ?_
    rintro e w' ⟨rfl, rfl⟩
    exact ⟨rfl, Lv.same HDA.out⟩
  | true =>
    refine (arm_ok w B p m _ hD n hn hon).mono ?_
    rintro e w' ⟨rfl, h1, h2, h3⟩
    have h1' : Dsk w' B p m ⟨x.room, x.ops, n, x.on, u0, es⟩ := h1
    rw [hon] at h1'
    exact ⟨rfl, ⟨es, u0, h1', hab, hu.kee h2, fun _ => hun hon⟩, h2, h3⟩
theorem new_any (n : Nat) (w : World) (h : 1 ≤ n) (h2 : n ≤ 65536) :
    Calls Tryz.prog 18 #[.int .i64 (n : Int)] w fun e w' => ∃ p m, e = .returned (.tuple #[ptr p, .int .i64 0]) ∧ DA w' w.heap.size p m ⟨n, 0, 0, true, none, []⟩ ∧ Below w.heap.size w w' := by
  refine (new_ok n w h h2).mono ?_
  rintro e w' ⟨p, m, rfl, hD, hb⟩
  exact ⟨p, m, rfl, ⟨[], .nilFunc, hD, rfl, rfl, fun _ => rfl⟩, hb⟩
end Go.Proofs.YtkmdegmpffgplaaGreatDoor
