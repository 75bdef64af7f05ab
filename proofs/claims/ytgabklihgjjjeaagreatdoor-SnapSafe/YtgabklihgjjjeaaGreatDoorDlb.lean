/- disk XXVII: Restart, whatever was left undone. -/
import Derived.Test.YtgabklihgjjjeaaGreatDoorDla
namespace Go.Proofs.YtgabklihgjjjeaaGreatDoor
open Go.RowKit Go.Maps Go.Sort Go.Shelf pk
set_option linter.unusedVariables false

theorem restart_on (w : World) (B p m : Nat) (x : AD) (h : DA w B p m x) (dn : Bool) (a : Option Addr) (n c : Nat) (hon : x.on = true) :
    Calls Tryz.prog 15 #[ptr p, .agg #[.bool dn, .slice a n c]] w fun r w' => r = .returned (.int .i64 14) ∧ Lv w w' B p m x := by
  have HDA : Hid (DA w B p m x) := h
  obtain ⟨es, u0, hD, hab, hu, hun⟩ := h
  have b1 := (Below.refl w.heap.size w).alloc (Nat.le_refl _) (.cells #[.bool dn, .slice a n c] 42)
  have V := (hD.step b1).va
  have y2 := V.cell 2 (v := .bool x.on) rfl
  rw [hon] at y2
  have HB1 := (show Hid _ from b1)
  clear hD b1 V
  have hp : (ptr p) = .pointer (some ⟨p, 0, none⟩) := rfl
  rw [hp]
  go_enter Tryz.func15, Tryz.ntmps15
  go_wp2_with fail
  go_ret
  exact ⟨rfl, Lv.step HDA.out HB1.out⟩
set_option maxRecDepth 100000 in
theorem restart_not (w : World) (B p m : Nat) (x : DK) (h : Dsk w B p m x) (kv : Value) (ks : List Bool) (hk : Bl w kv ks) (hkl : ks.length ≤ 140737488355328) (hks : Safe w kv) (hoff : x.on = false) :
    Calls Tryz.prog 15 #[ptr p, .agg #[.bool false, kv]] w fun r w' => r = .returned (.int .i64 0) ∧ Rst w w' B p m x ks := by
  have HB0 : Hid (B ≤ w.heap.size) := (show B ≤ w.heap.size from Nat.le_trans h.lo.1 (Nat.le_of_lt h.va.lt))
  have b1 := (Below.refl w.heap.size w).alloc (Nat.le_refl _) (.cells #[.bool false, kv] 42)
  have HH := (show Hid _ from h)
  have HV0 : Hid (VA w p [.int .i64 x.room, .map (some m), .bool false, .int .i64 x.ops, .int .i64 x.left, x.und] 73) := by have := h.va; rw [hoff] at this; exact this
  have V := (h.step b1).va
  rw [hoff] at V
  have y2 := V.cell 2 (v := .bool false) rfl
  have y5 := V.cell 5 (v := x.und) rfl
  have f5 := V.free 5
  have FV := va_new w [.bool false, kv] 42
  have z0 := FV.cell 0 (v := .bool false) rfl
  have z1 := FV.cell 1 (v := kv) rfl
  obtain ⟨ka, kc, hkv, _⟩ := hk.form
  have HK : Hid (Bl w kv ks) := hk
  have HS : Hid (Safe w kv) := hks
  have HB1 := (show Hid _ from b1)
  have hlp := h.va.lt
  clear h hk hks b1 V FV
  subst hkv
  have hp : (ptr p) = .pointer (some ⟨p, 0, none⟩) := rfl
  rw [hp]
  have s5 := run_store Tryz.prog (w.alloc (.cells #[.bool false, .slice ka ks.length kc] 42)) ⟨p, 5, none⟩ .nilFunc .plain rfl
  simp only [y5, f5, Bool.false_eq_true, if_false] at s5
  have h2 := hdr_of HH.out (upd_set w p 5 .nilFunc) x.ops x.left false .nilFunc (HV0.out.set 5 _)
  have b2 := (Below.refl (w.setCell ⟨p, 5, none⟩ .nilFunc).heap.size (w.setCell ⟨p, 5, none⟩ .nilFunc)).alloc (Nat.le_refl _) (.cells #[.bool false, .slice ka ks.length kc] 42)
  have k2 := h2.2.1.trans (Kee.bel b2)
  have HD2 : Hid (Dsk ((w.setCell ⟨p, 5, none⟩ .nilFunc).alloc (.cells #[.bool false, .slice ka ks.length kc] 42)) B p m { x with ops := x.ops, left := x.left, on := false, und := .nilFunc }) := h2.1.step b2
  have HK2 := (show Hid _ from HK.out.kee HS.out k2)
  have HS2 : Hid (Safe ((w.setCell ⟨p, 5, none⟩ .nilFunc).alloc (.cells #[.bool false, .slice ka ks.length kc] 42)) (.slice ka ks.length kc)) := HS.out.kee k2
  have HE2 := (show Hid _ from k2)
  have HL2 := (show Hid _ from h2.2.2.trans (b2.mono (by have := HB0.out; simp; omega)))
  clear b2 k2
  clear h2
  go_enter Tryz.func15, Tryz.ntmps15
  go_wp2_with (go_at_call 35; refine (settle_ok _ B p m _ HD2.out _ ks HK2.out hkl HS2.out).mono ?_; rintro r w3 ⟨⟨v, rfl⟩, ⟨ns, hpm, hsr, es', hab, hD⟩, hk3, hb3⟩; have y3 := hD.va.cell 2 (v := .bool false) rfl; have f3 := hD.va.free 2; have HD3 := (show Hid _ from hD); clear hD)
  go_ret
  have h4 := hdr_of HD3.out (upd_set w3 p 2 (.bool true)) x.ops x.left true .nilFunc (HD3.out.va.set 2 _)
  exact ⟨rfl, ⟨ns, hpm, hsr, es', hab, h4.1⟩, (HE2.out.trans hk3).trans h4.2.1, (HL2.out.trans hb3).trans h4.2.2⟩
set_option maxRecDepth 100000 in
theorem restart_sync (w : World) (B p m : Nat) (x : DK) (h : Dsk w B p m x) (kv : Value) (ks : List Bool) (hk : Bl w kv ks) (hkl : ks.length ≤ 140737488355328) (hks : Safe w kv) (hoff : x.on = false) (Bf : Nat) (hu : x.und = .func (.func 73) #[] #[ptr Bf]) (fs1 : FS)
    (hcl : ∀ w1, Below w.heap.size w w1 → Calls Tryz.prog 73 #[ptr Bf] w1 fun r w' => (∃ v, r = .returned v) ∧ (∃ es1, Dsk w' B p m { x with es := es1 } ∧ ab es1 = fs1) ∧ Kee w1 w' ∧ Below B w1 w') :
    Calls Tryz.prog 15 #[ptr p, .agg #[.bool true, kv]] w fun r w' => r = .returned (.int .i64 0) ∧ (∃ ns, ns.Perm (fs1.map (·.1)) ∧ ns.Pairwise (fun a b => a ≤ b) ∧ ∃ es', ab es' = (stl ks ns fs1).1 ∧ Dsk w' B p m { x with on := true, und := .nilFunc, es := es' }) ∧ Kee w w' ∧ Below B w w' := by
  have HB0 : Hid (B ≤ w.heap.size) := (show B ≤ w.heap.size from Nat.le_trans h.lo.1 (Nat.le_of_lt h.va.lt))
  have b1 := (Below.refl w.heap.size w).alloc (Nat.le_refl _) (.cells #[.bool true, kv] 42)
  have HH := (show Hid _ from h)
  have hup : x.und = .func (.func 73) #[] #[.pointer (some ⟨Bf, 0, none⟩)] := hu
  have V := (h.step b1).va
  rw [hoff, hup] at V
  have y2 := V.cell 2 (v := .bool false) rfl
  have y5 := V.cell 5 (v := .func (.func 73) #[] #[.pointer (some ⟨Bf, 0, none⟩)]) rfl
  have FV := va_new w [.bool true, kv] 42
  have z0 := FV.cell 0 (v := .bool true) rfl
  have z1 := FV.cell 1 (v := kv) rfl
  obtain ⟨ka, kc, hkv, _⟩ := hk.form
  have HK : Hid (Bl w kv ks) := hk
  have HS : Hid (Safe w kv) := hks
  have HB1 := (show Hid _ from b1)
  have HFV := (show Hid _ from FV)
  have hff : ∀ w : World, (binOp .neq 1 (.func (.func 73) #[] #[.pointer (some ⟨Bf, 0, none⟩)]) .nilFunc).run Tryz.prog w = .ok (.bool true) w := fun _ => rfl
  have HC : Hid (Unit → ∀ w1, Below w.heap.size w w1 → Calls Tryz.prog 73 #[ptr Bf] w1 fun r w' => (∃ v, r = .returned v) ∧ (∃ es1, Dsk w' B p m { x with es := es1 } ∧ ab es1 = fs1) ∧ Kee w1 w' ∧ Below B w1 w') := fun _ => hcl
  clear h hk hks b1 V FV hcl
  subst hkv
  have hp : (ptr p) = .pointer (some ⟨p, 0, none⟩) := rfl
  rw [hp]
  go_enter Tryz.func15, Tryz.ntmps15
  go_wp2_with (go_at_call 73; refine (HC.out () _ HB1.out).mono ?_; rintro r w2 ⟨⟨v, rfl⟩, ⟨es1, hD2, hab1⟩, hk2, hb2⟩)
  have HA1 := (show Hid _ from hab1)
  have HK2 := (show Hid _ from (Kee.bel HB1.out).trans hk2)
  have HL2 := (show Hid _ from (HB1.out.mono HB0.out).trans hb2)
  have w5 := hD2.va.cell 5 (v := x.und) rfl
  have g5 := hD2.va.free 5
  have s5 := run_store Tryz.prog w2 ⟨p, 5, none⟩ .nilFunc .plain rfl
  simp only [w5, g5, Bool.false_eq_true, if_false] at s5
  have V2 := hD2.va
  rw [show DK.on { x with es := es1 } = false from hoff] at V2
  have h3 := hdr_of hD2 (upd_set w2 p 5 .nilFunc) x.ops x.left false .nilFunc (V2.set 5 _)
  have k3 := HK2.out.trans h3.2.1
  have FV3 := HFV.out.kee (hk2.trans h3.2.1) (by unfold Dt; decide)
  have z3 := FV3.cell 1 (v := .slice ka ks.length kc) rfl
  have HD3 := (show Hid _ from h3.1)
  have HS3 : Hid (Safe (w2.setCell ⟨p, 5, none⟩ .nilFunc) (.slice ka ks.length kc)) := HS.out.kee k3
  have HK3 : Hid (Bl (w2.setCell ⟨p, 5, none⟩ .nilFunc) (.slice ka ks.length kc) ks) := HK.out.kee HS.out k3
  have HE3 := (show Hid _ from k3)
  have HL3 := (show Hid _ from HL2.out.trans h3.2.2)
  clear hab1 hk2 hb2 hD2 V2 h3 k3 FV3 w5 g5
  go_wp2_with (go_at_call 35; refine (settle_ok _ B p m _ HD3.out _ ks HK3.out hkl HS3.out).mono ?_; rintro r w4 ⟨⟨v, rfl⟩, ⟨ns, hpm, hsr, es', hab, hD⟩, hk4, hb4⟩; have y3 := hD.va.cell 2 (v := .bool false) rfl; have f3 := hD.va.free 2; have HD4 := (show Hid _ from hD); clear hD)
  go_ret
  have h5 := hdr_of HD4.out (upd_set w4 p 2 (.bool true)) x.ops x.left true .nilFunc (HD4.out.va.set 2 _)
  have hpm' : ns.Perm (es1.map (·.nm)) := hpm
  have hab' : ab es' = (stl ks ns (ab es1)).1 := hab
  rw [names_ab, HA1.out] at hpm'
  rw [HA1.out] at hab'
  exact ⟨rfl, ⟨ns, hpm', hsr, es', hab', h5.1⟩, (HE3.out.trans hk4).trans h5.2.1, (HL3.out.trans hb4).trans h5.2.2⟩
set_option maxRecDepth 100000 in
theorem restart_ren (w : World) (B p m : Nat) (x : DK) (h : Dsk w B p m x) (kv : Value) (ks : List Bool) (hk : Bl w kv ks) (hkl : ks.length ≤ 140737488355328) (hks : Safe w kv) (hoff : x.on = false) (Bd Ba Bf Bb : Nat) (hu : x.und = .func (.func 74) #[] #[ptr Bd, ptr Ba, ptr Bf, ptr Bb]) (fs1 : FS)
    (hcl : ∀ w1, Below w.heap.size w w1 → Calls Tryz.prog 74 #[ptr Bd, ptr Ba, ptr Bf, ptr Bb] w1 fun r w' => (∃ v, r = .returned v) ∧ (∃ es1, Dsk w' B p m { x with es := es1 } ∧ ab es1 = fs1) ∧ Kee w1 w' ∧ Below B w1 w') :
    Calls Tryz.prog 15 #[ptr p, .agg #[.bool true, kv]] w fun r w' => r = .returned (.int .i64 0) ∧ (∃ ns, ns.Perm (fs1.map (·.1)) ∧ ns.Pairwise (fun a b => a ≤ b) ∧ ∃ es', ab es' = (stl ks ns fs1).1 ∧ Dsk w' B p m { x with on := true, und := .nilFunc, es := es' }) ∧ Kee w w' ∧ Below B w w' := by
  have HB0 : Hid (B ≤ w.heap.size) := (show B ≤ w.heap.size from Nat.le_trans h.lo.1 (Nat.le_of_lt h.va.lt))
  have b1 := (Below.refl w.heap.size w).alloc (Nat.le_refl _) (.cells #[.bool true, kv] 42)
  have HH := (show Hid _ from h)
  have hup : x.und = .func (.func 74) #[] #[.pointer (some ⟨Bd, 0, none⟩), .pointer (some ⟨Ba, 0, none⟩), .pointer (some ⟨Bf, 0, none⟩), .pointer (some ⟨Bb, 0, none⟩)] := hu
  have V := (h.step b1).va
  rw [hoff, hup] at V
  have y2 := V.cell 2 (v := .bool false) rfl
  have y5 := V.cell 5 (v := .func (.func 74) #[] #[.pointer (some ⟨Bd, 0, none⟩), .pointer (some ⟨Ba, 0, none⟩), .pointer (some ⟨Bf, 0, none⟩), .pointer (some ⟨Bb, 0, none⟩)]) rfl
  have FV := va_new w [.bool true, kv] 42
  have z0 := FV.cell 0 (v := .bool true) rfl
  have z1 := FV.cell 1 (v := kv) rfl
  obtain ⟨ka, kc, hkv, _⟩ := hk.form
  have HK : Hid (Bl w kv ks) := hk
  have HS : Hid (Safe w kv) := hks
  have HB1 := (show Hid _ from b1)
  have HFV := (show Hid _ from FV)
  have hff : ∀ w : World, (binOp .neq 1 (.func (.func 74) #[] #[.pointer (some ⟨Bd, 0, none⟩), .pointer (some ⟨Ba, 0, none⟩), .pointer (some ⟨Bf, 0, none⟩), .pointer (some ⟨Bb, 0, none⟩)]) .nilFunc).run Tryz.prog w = .ok (.bool true) w := fun _ => rfl
  have HC : Hid (Unit → ∀ w1, Below w.heap.size w w1 → Calls Tryz.prog 74 #[ptr Bd, ptr Ba, ptr Bf, ptr Bb] w1 fun r w' => (∃ v, r = .returned v) ∧ (∃ es1, Dsk w' B p m { x with es := es1 } ∧ ab es1 = fs1) ∧ Kee w1 w' ∧ Below B w1 w') := fun _ => hcl
  clear h hk hks b1 V FV hcl
  subst hkv
  have hp : (ptr p) = .pointer (some ⟨p, 0, none⟩) := rfl
  rw [hp]
  go_enter Tryz.func15, Tryz.ntmps15
  go_wp2_with (go_at_call 74; refine (HC.out () _ HB1.out).mono ?_; rintro r w2 ⟨⟨v, rfl⟩, ⟨es1, hD2, hab1⟩, hk2, hb2⟩)
  have HA1 := (show Hid _ from hab1)
  have HK2 := (show Hid _ from (Kee.bel HB1.out).trans hk2)
  have HL2 := (show Hid _ from (HB1.out.mono HB0.out).trans hb2)
  have w5 := hD2.va.cell 5 (v := x.und) rfl
  have g5 := hD2.va.free 5
  have s5 := run_store Tryz.prog w2 ⟨p, 5, none⟩ .nilFunc .plain rfl
  simp only [w5, g5, Bool.false_eq_true, if_false] at s5
  have V2 := hD2.va
  rw [show DK.on { x with es := es1 } = false from hoff] at V2
  have h3 := hdr_of hD2 (upd_set w2 p 5 .nilFunc) x.ops x.left false .nilFunc (V2.set 5 _)
  have k3 := HK2.out.trans h3.2.1
  have FV3 := HFV.out.kee (hk2.trans h3.2.1) (by unfold Dt; decide)
  have z3 := FV3.cell 1 (v := .slice ka ks.length kc) rfl
  have HD3 := (show Hid _ from h3.1)
  have HS3 : Hid (Safe (w2.setCell ⟨p, 5, none⟩ .nilFunc) (.slice ka ks.length kc)) := HS.out.kee k3
  have HK3 : Hid (Bl (w2.setCell ⟨p, 5, none⟩ .nilFunc) (.slice ka ks.length kc) ks) := HK.out.kee HS.out k3
  have HE3 := (show Hid _ from k3)
  have HL3 := (show Hid _ from HL2.out.trans h3.2.2)
  clear hab1 hk2 hb2 hD2 V2 h3 k3 FV3 w5 g5
  go_wp2_with (go_at_call 35; refine (settle_ok _ B p m _ HD3.out _ ks HK3.out hkl HS3.out).mono ?_; rintro r w4 ⟨⟨v, rfl⟩, ⟨ns, hpm, hsr, es', hab, hD⟩, hk4, hb4⟩; have y3 := hD.va.cell 2 (v := .bool false) rfl; have f3 := hD.va.free 2; have HD4 := (show Hid _ from hD); clear hD)
  go_ret
  have h5 := hdr_of HD4.out (upd_set w4 p 2 (.bool true)) x.ops x.left true .nilFunc (HD4.out.va.set 2 _)
  have hpm' : ns.Perm (es1.map (·.nm)) := hpm
  have hab' : ab es' = (stl ks ns (ab es1)).1 := hab
  rw [names_ab, HA1.out] at hpm'
  rw [HA1.out] at hab'
  exact ⟨rfl, ⟨ns, hpm', hsr, es', hab', h5.1⟩, (HE3.out.trans hk4).trans h5.2.1, (HL3.out.trans hb4).trans h5.2.2⟩
set_option maxRecDepth 100000 in
theorem restart_rem (w : World) (B p m : Nat) (x : DK) (h : Dsk w B p m x) (kv : Value) (ks : List Bool) (hk : Bl w kv ks) (hkl : ks.length ≤ 140737488355328) (hks : Safe w kv) (hoff : x.on = false) (Bd Ba : Nat) (hu : x.und = .func (.func 59) #[] #[ptr Bd, ptr Ba]) (fs1 : FS)
    (hcl : ∀ w1, Below w.heap.size w w1 → Calls Tryz.prog 59 #[ptr Bd, ptr Ba] w1 fun r w' => (∃ v, r = .returned v) ∧ (∃ es1, Dsk w' B p m { x with es := es1 } ∧ ab es1 = fs1) ∧ Kee w1 w' ∧ Below B w1 w') :
    Calls Tryz.prog 15 #[ptr p, .agg #[.bool true, kv]] w fun r w' => r = .returned (.int .i64 0) ∧ (∃ ns, ns.Perm (fs1.map (·.1)) ∧ ns.Pairwise (fun a b => a ≤ b) ∧ ∃ es', ab es' = (stl ks ns fs1).1 ∧ Dsk w' B p m { x with on := true, und := .nilFunc, es := es' }) ∧ Kee w w' ∧ Below B w w' := by
  have HB0 : Hid (B ≤ w.heap.size) := (show B ≤ w.heap.size from Nat.le_trans h.lo.1 (Nat.le_of_lt h.va.lt))
  have b1 := (Below.refl w.heap.size w).alloc (Nat.le_refl _) (.cells #[.bool true, kv] 42)
  have HH := (show Hid _ from h)
  have hup : x.und = .func (.func 59) #[] #[.pointer (some ⟨Bd, 0, none⟩), .pointer (some ⟨Ba, 0, none⟩)] := hu
  have V := (h.step b1).va
  rw [hoff, hup] at V
  have y2 := V.cell 2 (v := .bool false) rfl
  have y5 := V.cell 5 (v := .func (.func 59) #[] #[.pointer (some ⟨Bd, 0, none⟩), .pointer (some ⟨Ba, 0, none⟩)]) rfl
  have FV := va_new w [.bool true, kv] 42
  have z0 := FV.cell 0 (v := .bool true) rfl
  have z1 := FV.cell 1 (v := kv) rfl
  obtain ⟨ka, kc, hkv, _⟩ := hk.form
  have HK : Hid (Bl w kv ks) := hk
  have HS : Hid (Safe w kv) := hks
  have HB1 := (show Hid _ from b1)
  have HFV := (show Hid _ from FV)
  have hff : ∀ w : World, (binOp .neq 1 (.func (.func 59) #[] #[.pointer (some ⟨Bd, 0, none⟩), .pointer (some ⟨Ba, 0, none⟩)]) .nilFunc).run Tryz.prog w = .ok (.bool true) w := fun _ => rfl
  have HC : Hid (Unit → ∀ w1, Below w.heap.size w w1 → Calls Tryz.prog 59 #[ptr Bd, ptr Ba] w1 fun r w' => (∃ v, r = .returned v) ∧ (∃ es1, Dsk w' B p m { x with es := es1 } ∧ ab es1 = fs1) ∧ Kee w1 w' ∧ Below B w1 w') := fun _ => hcl
  clear h hk hks b1 V FV hcl
  subst hkv
  have hp : (ptr p) = .pointer (some ⟨p, 0, none⟩) := rfl
  rw [hp]
  go_enter Tryz.func15, Tryz.ntmps15
  go_wp2_with (go_at_call 59; refine (HC.out () _ HB1.out).mono ?_; rintro r w2 ⟨⟨v, rfl⟩, ⟨es1, hD2, hab1⟩, hk2, hb2⟩)
  have HA1 := (show Hid _ from hab1)
  have HK2 := (show Hid _ from (Kee.bel HB1.out).trans hk2)
  have HL2 := (show Hid _ from (HB1.out.mono HB0.out).trans hb2)
  have w5 := hD2.va.cell 5 (v := x.und) rfl
  have g5 := hD2.va.free 5
  have s5 := run_store Tryz.prog w2 ⟨p, 5, none⟩ .nilFunc .plain rfl
  simp only [w5, g5, Bool.false_eq_true, if_false] at s5
  have V2 := hD2.va
  rw [show DK.on { x with es := es1 } = false from hoff] at V2
  have h3 := hdr_of hD2 (upd_set w2 p 5 .nilFunc) x.ops x.left false .nilFunc (V2.set 5 _)
  have k3 := HK2.out.trans h3.2.1
  have FV3 := HFV.out.kee (hk2.trans h3.2.1) (by unfold Dt; decide)
  have z3 := FV3.cell 1 (v := .slice ka ks.length kc) rfl
  have HD3 := (show Hid _ from h3.1)
  have HS3 : Hid (Safe (w2.setCell ⟨p, 5, none⟩ .nilFunc) (.slice ka ks.length kc)) := HS.out.kee k3
  have HK3 : Hid (Bl (w2.setCell ⟨p, 5, none⟩ .nilFunc) (.slice ka ks.length kc) ks) := HK.out.kee HS.out k3
  have HE3 := (show Hid _ from k3)
  have HL3 := (show Hid _ from HL2.out.trans h3.2.2)
  clear hab1 hk2 hb2 hD2 V2 h3 k3 FV3 w5 g5
  go_wp2_with (go_at_call 35; refine (settle_ok _ B p m _ HD3.out _ ks HK3.out hkl HS3.out).mono ?_; rintro r w4 ⟨⟨v, rfl⟩, ⟨ns, hpm, hsr, es', hab, hD⟩, hk4, hb4⟩; have y3 := hD.va.cell 2 (v := .bool false) rfl; have f3 := hD.va.free 2; have HD4 := (show Hid _ from hD); clear hD)
  go_ret
  have h5 := hdr_of HD4.out (upd_set w4 p 2 (.bool true)) x.ops x.left true .nilFunc (HD4.out.va.set 2 _)
  have hpm' : ns.Perm (es1.map (·.nm)) := hpm
  have hab' : ab es' = (stl ks ns (ab es1)).1 := hab
  rw [names_ab, HA1.out] at hpm'
  rw [HA1.out] at hab'
  exact ⟨rfl, ⟨ns, hpm', hsr, es', hab', h5.1⟩, (HE3.out.trans hk4).trans h5.2.1, (HL3.out.trans hb4).trans h5.2.2⟩
/-- the files when the power comes again, ahead of what is lost -/
def doUnd (x : AD) (dn : Bool) : FS := if dn then (match x.und with | none => x.fs | some o => doOp o x.fs) else x.fs
theorem restart_off (w : World) (B p m : Nat) (x : AD) (h : DA w B p m x) (dn : Bool) (kv : Value) (ks : List Bool) (hk : Bl w kv ks) (hkl : ks.length ≤ 140737488355328) (hks : Safe w kv) (hoff : x.on = false) :
    Calls Tryz.prog 15 #[ptr p, .agg #[.bool dn, kv]] w fun r w' => r = .returned (.int .i64 0) ∧ ∃ ns, ns.Perm ((doUnd x dn).map (·.1)) ∧ ns.Pairwise (fun a b => a ≤ b) ∧ Lv w w' B p m { x with on := true, und := none, fs := (stl ks ns (doUnd x dn)).1 } := by
  obtain ⟨es, u0, hD, hab, hu, hun⟩ := h
  have hfin : ∀ (r : Ending) (w' : World) (fs1 : FS), fs1 = doUnd x dn → r = .returned (.int .i64 0) → (∃ ns, ns.Perm (fs1.map (·.1)) ∧ ns.Pairwise (fun a b => a ≤ b) ∧ ∃ es', ab es' = (stl ks ns fs1).1 ∧ Dsk w' B p m ⟨x.room, x.ops, x.left, true, .nilFunc, es'⟩) → Kee w w' → Below B w w' →
      r = .returned (.int .i64 0) ∧ ∃ ns, ns.Perm ((doUnd x dn).map (·.1)) ∧ ns.Pairwise (fun a b => a ≤ b) ∧ Lv w w' B p m { x with on := true, und := none, fs := (stl ks ns (doUnd x dn)).1 } := by
    rintro r w' fs1 rfl hr ⟨ns, h1, h2, es', h3, h4⟩ h5 h6
    exact ⟨hr, ns, h1, h2, ⟨es', .nilFunc, h4, h3, rfl, fun _ => rfl⟩, h5, h6⟩
  cases dn with
  | false =>
    refine (restart_not w B p m _ hD kv ks hk hkl hks hoff).mono ?_
    rintro r w' ⟨hr, ⟨ns, h1, h2, es', h3, h4⟩, h5, h6⟩
    have h1' : ns.Perm (es.map (·.nm)) := h1
    have h3' : ab es' = (stl ks ns (ab es)).1 := h3
    rw [names_ab, hab] at h1'
    rw [hab] at h3'
    exact hfin r w' x.fs rfl hr ⟨ns, h1', h2, es', h3', h4⟩ h5 h6
  | true =>
    cases hq : x.und with
    | none =>
      have hu0 : u0 = .nilFunc := by rw [hq] at hu; exact hu
      subst hu0
      refine (restart_ok w B p m _ hD true kv ks hk hkl hks hoff rfl).mono ?_
      rintro r w' ⟨hr, ⟨ns, h1, h2, es', h3, h4⟩, h5, h6⟩
      have h1' : ns.Perm (es.map (·.nm)) := h1
      have h3' : ab es' = (stl ks ns (ab es)).1 := h3
      rw [names_ab, hab] at h1'
      rw [hab] at h3'
      exact hfin r w' x.fs (by unfold doUnd; rw [hq]; rfl) hr ⟨ns, h1', h2, es', h3', h4⟩ h5 h6
    | some q =>
      rw [hq] at hu
      have hdo : doOp q x.fs = doUnd x true := by unfold doUnd; rw [hq]; rfl
      obtain ⟨k, a, b, n⟩ := q
      rcases hu with ⟨hk1, Bf, f, hf, hu, h4⟩ | ⟨hk1, hn, Bf, Bn, f, hf, hu, h4, h5⟩ | ⟨hk1, hn, Bd, Ba, Bf, Bb, f, hf, hu, h4, h5, h6, h7⟩ | ⟨hk1, Bd, Ba, f, hf, hu, h4, h5⟩
      · have hk1' : k = 1 := hk1
        subst hk1'
        have hf' : fd es a = some f := hf
        obtain ⟨l1, l2, hx, hnm, hl1⟩ := fd_split hf'
        refine (restart_sync w B p m _ hD kv ks hk hkl hks hoff Bf hu (doOp ⟨1, a, b, n⟩ x.fs) (fun w1 b1 => ?_)).mono (fun r w' ⟨hr, h1, h2, h3⟩ => hfin r w' _ hdo hr h1 h2 h3)
        have hfl := (hD.step b1).fil f (fd_mem hf').1
        refine (sync1_ok w1 B Bf f hfl (h4.kee (Kee.bel b1) (by unfold Dt; decide)) (hD.flen hx)).mono ?_
        rintro r w' ⟨hr, hc⟩
        obtain ⟨es1, hD1, hab1⟩ := (hD.step b1).chf hx hc (Nat.le_refl _)
        refine ⟨hr, ⟨es1, hD1, ?_⟩, hc.kee hfl, hc.bel hfl (Nat.le_trans hD.lo.1 (Nat.le_trans (Nat.le_of_lt hD.va.lt) b1.size))⟩
        rw [hab1]
        show upd1 (ab es) f.nm f.ss f.ss.length = _
        rw [upd1_sync hD.ap hf' b n, hab]
      · have hk1' : k = 3 := hk1
        subst hk1'
        have hf' : fd es a = some f := hf
        have ha16 : a.length ≤ 16 := by
          have := (hD.fil f (fd_mem hf').1).nm
          rw [(fd_mem hf').2] at this
          exact this
        have hb16 : b.length ≤ 16 := by
          have hn' : isNm b = true := hn
          unfold isNm at hn'
          simp only [Bool.and_eq_true, decide_eq_true_eq] at hn'
          exact hn'.1.2
        refine (restart_ren w B p m _ hD kv ks hk hkl hks hoff Bd Ba Bf Bb hu (doOp ⟨3, a, b, n⟩ x.fs) (fun w1 b1 => ?_)).mono (fun r w' ⟨hr, h1, h2, h3⟩ => hfin r w' _ hdo hr h1 h2 h3)
        refine (ren1_ok w1 B p m _ (hD.step b1) Bd Ba Bf Bb ⟨a.toArray⟩ ⟨b.toArray⟩ (by show a.toArray.size ≤ 16; simpa using ha16) (by show b.toArray.size ≤ 16; simpa using hb16) f (by simpa using hf') (h4.kee (Kee.bel b1) (by unfold Dt; decide)) (h5.kee (Kee.bel b1) (by unfold Dt; decide)) (h6.kee (Kee.bel b1) (by unfold Dt; decide)) (h7.kee (Kee.bel b1) (by unfold Dt; decide)) _ rfl).mono ?_
        rintro r w' ⟨hr, hD1, hk', hb'⟩
        refine ⟨hr, ⟨_, hD1, ?_⟩, hk', hb'⟩
        rw [← hab, ← ab_ren hf' n]
      · have hk1' : k = 4 := hk1
        subst hk1'
        have hf' : fd es a = some f := hf
        have ha16 : a.length ≤ 16 := by
          have := (hD.fil f (fd_mem hf').1).nm
          rw [(fd_mem hf').2] at this
          exact this
        refine (restart_rem w B p m _ hD kv ks hk hkl hks hoff Bd Ba hu (doOp ⟨4, a, b, n⟩ x.fs) (fun w1 b1 => ?_)).mono (fun r w' ⟨hr, h1, h2, h3⟩ => hfin r w' _ hdo hr h1 h2 h3)
        refine (rem1_ok w1 B p m _ (hD.step b1) Bd Ba ⟨a.toArray⟩ (by show a.toArray.size ≤ 16; simpa using ha16) (h4.kee (Kee.bel b1) (by unfold Dt; decide)) (h5.kee (Kee.bel b1) (by unfold Dt; decide))).mono ?_
        rintro r w' ⟨hr, hD1, hk', hb'⟩
        refine ⟨hr, ⟨_, hD1, ?_⟩, hk', hb'⟩
        rw [← hab, ← ab_rem es a b n]
end Go.Proofs.YtgabklihgjjjeaaGreatDoor
