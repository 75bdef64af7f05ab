/- disk XXVI: Truncate, Rename, Remove, whatever comes. -/
import Derived.Test.YtgabklihgjjjeaaGreatDoorDkz
namespace Go.Proofs.YtgabklihgjjjeaaGreatDoor
open Go.RowKit Go.Maps Go.Sort Go.Shelf pk
set_option linter.unusedVariables false
set_option linter.unusedSimpArgs false

theorem ab_ren {es : List Ent} {a b : List UInt8} {f : Ent} (hf : fd es a = some f) (n : Nat) : ab ((es.filter (fun e => decide (e.nm ≠ a))).filter (fun e => decide (e.nm ≠ b)) ++ [{ f with nm := b }]) = doOp ⟨3, a, b, n⟩ (ab es) := by
  have h1 : lk (ab es) a = some (f.nm, f.ss, f.sy) := by rw [lk_ab, hf]; rfl
  unfold doOp
  rw [if_neg (by simp), if_neg (by simp), if_pos rfl]
  show _ = (match lk (ab es) a with | none => ab es | some t => (ab es).filter (fun (u : List UInt8 × List (List Nat) × Nat) => decide (u.1 ≠ a ∧ u.1 ≠ b)) ++ [(b, t.2.1, t.2.2)])
  rw [h1, ab_app]
  congr 1
  rw [List.filter_filter, ab_filter es (fun l => decide (l ≠ b) && decide (l ≠ a))]
  congr 1
  funext u
  by_cases h2 : u.1 = a <;> by_cases h3 : u.1 = b <;> simp [h2, h3]
theorem ab_rem (es : List Ent) (a b : List UInt8) (n : Nat) : ab (es.filter (fun e => decide (e.nm ≠ a))) = doOp ⟨4, a, b, n⟩ (ab es) := by
  rw [ab_filter es (fun l => decide (l ≠ a))]
  rfl
theorem bytes_back (s : ByteArray) : (⟨s.data.toList.toArray⟩ : ByteArray) = s := by cases s; simp
theorem perf_renam (w : World) (B p m : Nat) (x : DK) (h : Dsk w B p m x) (hon : x.on = true) (ho : x.ops ≤ 4611686018427387904) (hlf : x.left ≤ 9223372036854775807) (Bd Ba Bf Bb : Nat) (hst : (beg x).on = true) (R : World → Prop)
    (hcl : ∀ w3, Hdr w w3 B p m (beg x) → Calls Tryz.prog 74 #[ptr Bd, ptr Ba, ptr Bf, ptr Bb] w3 fun r w' => (∃ v, r = .returned v) ∧ R w') :
    Calls Tryz.prog 58 #[ptr p, .func (.func 74) #[] #[ptr Bd, ptr Ba, ptr Bf, ptr Bb]] w fun r w' => r = .returned (.int .i64 0) ∧ R w' := by
  have y := h.va.cell 2 (v := .bool x.on) rfl
  rw [hon] at y
  have HH := (show Hid _ from h)
  have HC : Hid (Unit → ∀ w3, Hdr w w3 B p m (beg x) → Calls Tryz.prog 74 #[ptr Bd, ptr Ba, ptr Bf, ptr Bb] w3 fun r w' => (∃ v, r = .returned v) ∧ R w') := fun _ => hcl
  clear h hcl
  have hp : (ptr p) = .pointer (some ⟨p, 0, none⟩) := rfl
  rw [hp]
  go_enter Tryz.func58, Tryz.ntmps58
  go_wp2_with (first | (go_at_call 70; refine (begin_ok _ B p m x HH.out hon ho hlf).mono ?_; rintro e w3 ⟨rfl, h3⟩; rw [hst]; have H3 := (show Hid _ from h3); clear h3) | (go_at_call 74; refine (HC.out () _ H3.out).mono ?_; rintro e w4 ⟨⟨v, rfl⟩, h4⟩))
  go_ret
  exact ⟨rfl, h4⟩
theorem perf_renam_off (w : World) (B p m : Nat) (x : DK) (h : Dsk w B p m x) (hon : x.on = true) (ho : x.ops ≤ 4611686018427387904) (hlf : x.left ≤ 9223372036854775807) (Bd Ba Bf Bb : Nat) (hst : (beg x).on = false) :
    Calls Tryz.prog 58 #[ptr p, .func (.func 74) #[] #[ptr Bd, ptr Ba, ptr Bf, ptr Bb]] w fun r w' => r = .returned (.int .i64 18) ∧ Hdr w w' B p m { beg x with und := .func (.func 74) #[] #[ptr Bd, ptr Ba, ptr Bf, ptr Bb] } := by
  have y := h.va.cell 2 (v := .bool x.on) rfl
  rw [hon] at y
  have HH := (show Hid _ from h)
  clear h
  have hp : (ptr p) = .pointer (some ⟨p, 0, none⟩) := rfl
  rw [hp]
  go_enter Tryz.func58, Tryz.ntmps58
  go_wp2_with (go_at_call 70; refine (begin_ok _ B p m x HH.out hon ho hlf).mono ?_; rintro e w3 ⟨rfl, h3⟩; rw [hst]; have H3 := (show Hid _ from h3); have y5 := h3.1.va.cell 5 (v := (beg x).und) rfl; have f5 := h3.1.va.free 5; have s5 := run_store Tryz.prog w3 ⟨p, 5, none⟩ (.func (.func 74) #[] #[ptr Bd, ptr Ba, ptr Bf, ptr Bb]) .plain rfl; simp only [y5, f5, Bool.false_eq_true, if_false] at s5; clear h3 y5 f5)
  go_ret
  have h4 := hdr_of H3.out.1 (upd_set _ p 5 (.func (.func 74) #[] #[ptr Bd, ptr Ba, ptr Bf, ptr Bb])) (beg x).ops (beg x).left (beg x).on (.func (.func 74) #[] #[ptr Bd, ptr Ba, ptr Bf, ptr Bb]) (H3.out.1.va.set 5 _)
  exact ⟨rfl, h4.1, H3.out.2.1.trans h4.2.1, H3.out.2.2.trans h4.2.2⟩
theorem perf_remov (w : World) (B p m : Nat) (x : DK) (h : Dsk w B p m x) (hon : x.on = true) (ho : x.ops ≤ 4611686018427387904) (hlf : x.left ≤ 9223372036854775807) (Bd Ba : Nat) (hst : (beg x).on = true) (R : World → Prop)
    (hcl : ∀ w3, Hdr w w3 B p m (beg x) → Calls Tryz.prog 59 #[ptr Bd, ptr Ba] w3 fun r w' => (∃ v, r = .returned v) ∧ R w') :
    Calls Tryz.prog 58 #[ptr p, .func (.func 59) #[] #[ptr Bd, ptr Ba]] w fun r w' => r = .returned (.int .i64 0) ∧ R w' := by
  have y := h.va.cell 2 (v := .bool x.on) rfl
  rw [hon] at y
  have HH := (show Hid _ from h)
  have HC : Hid (Unit → ∀ w3, Hdr w w3 B p m (beg x) → Calls Tryz.prog 59 #[ptr Bd, ptr Ba] w3 fun r w' => (∃ v, r = .returned v) ∧ R w') := fun _ => hcl
  clear h hcl
  have hp : (ptr p) = .pointer (some ⟨p, 0, none⟩) := rfl
  rw [hp]
  go_enter Tryz.func58, Tryz.ntmps58
  go_wp2_with (first | (go_at_call 70; refine (begin_ok _ B p m x HH.out hon ho hlf).mono ?_; rintro e w3 ⟨rfl, h3⟩; rw [hst]; have H3 := (show Hid _ from h3); clear h3) | (go_at_call 59; refine (HC.out () _ H3.out).mono ?_; rintro e w4 ⟨⟨v, rfl⟩, h4⟩))
  go_ret
  exact ⟨rfl, h4⟩
theorem perf_remov_off (w : World) (B p m : Nat) (x : DK) (h : Dsk w B p m x) (hon : x.on = true) (ho : x.ops ≤ 4611686018427387904) (hlf : x.left ≤ 9223372036854775807) (Bd Ba : Nat) (hst : (beg x).on = false) :
    Calls Tryz.prog 58 #[ptr p, .func (.func 59) #[] #[ptr Bd, ptr Ba]] w fun r w' => r = .returned (.int .i64 18) ∧ Hdr w w' B p m { beg x with und := .func (.func 59) #[] #[ptr Bd, ptr Ba] } := by
  have y := h.va.cell 2 (v := .bool x.on) rfl
  rw [hon] at y
  have HH := (show Hid _ from h)
  clear h
  have hp : (ptr p) = .pointer (some ⟨p, 0, none⟩) := rfl
  rw [hp]
  go_enter Tryz.func58, Tryz.ntmps58
  go_wp2_with (go_at_call 70; refine (begin_ok _ B p m x HH.out hon ho hlf).mono ?_; rintro e w3 ⟨rfl, h3⟩; rw [hst]; have H3 := (show Hid _ from h3); have y5 := h3.1.va.cell 5 (v := (beg x).und) rfl; have f5 := h3.1.va.free 5; have s5 := run_store Tryz.prog w3 ⟨p, 5, none⟩ (.func (.func 59) #[] #[ptr Bd, ptr Ba]) .plain rfl; simp only [y5, f5, Bool.false_eq_true, if_false] at s5; clear h3 y5 f5)
  go_ret
  have h4 := hdr_of H3.out.1 (upd_set _ p 5 (.func (.func 59) #[] #[ptr Bd, ptr Ba])) (beg x).ops (beg x).left (beg x).on (.func (.func 59) #[] #[ptr Bd, ptr Ba]) (H3.out.1.va.set 5 _)
  exact ⟨rfl, h4.1, H3.out.2.1.trans h4.2.1, H3.out.2.2.trans h4.2.2⟩
theorem rename_any (w : World) (B p m : Nat) (x : AD) (h : DA w B p m x) (s : ByteArray) (hs : s.size ≤ 9223372036854775807) (u : ByteArray) (hus : u.size ≤ 9223372036854775807) (ho : x.ops ≤ 4611686018427387904) (hlf : x.left ≤ 9223372036854775807) :
    Calls Tryz.prog 50 #[ptr p, .string s, .string u] w fun r w' => r = .returned (.int .i64 ((oper x ⟨3, s.data.toList, u.data.toList, 0⟩).1 : Nat)) ∧ Lv w w' B p m (oper x ⟨3, s.data.toList, u.data.toList, 0⟩).2 := by
  have HDA : Hid (DA w B p m x) := h
  have HLT : Hid (B ≤ w.heap.size) := h.lt
  obtain ⟨es, u0, hD, hab, hu, hun⟩ := h
  have HD := (show Hid _ from hD)
  have hp : (ptr p) = .pointer (some ⟨p, 0, none⟩) := rfl
  rw [hp]
  cases hnb : isNm u.data.toList with
  | false =>
    rw [show oper x ⟨3, s.data.toList, u.data.toList, 0⟩ = (1, x) by unfold oper; simp [hnb]]
    clear hD
    go_enter Tryz.func50, Tryz.ntmps50
    go_wp2_with (go_at_call 62; refine (isName_ok u _ hus).mono ?_; rintro e w0 ⟨rfl, hw0⟩; obtain rfl := hw0.symm; rw [hnb])
    go_ret
    exact ⟨rfl, Lv.step HDA.out ((((Below.refl _ _).alloc (Nat.le_refl _) _).alloc (by simp only [World.size_alloc]; omega) _).alloc (by simp only [World.size_alloc]; omega) _)⟩
  | true =>
    have HBP : Hid (Below w.heap.size w (((w.alloc (.cells #[.pointer (some ⟨p, 0, none⟩)] 37)).alloc (.cells #[.string s] 9)).alloc (.cells #[.string u] 9))) := ((((Below.refl _ _).alloc (Nat.le_refl _) _).alloc (by simp only [World.size_alloc]; omega) _).alloc (by simp only [World.size_alloc]; omega) _)
    cases hn : isNm s.data.toList with
    | false =>
      rw [oper_bad (o := ⟨3, s.data.toList, u.data.toList, 0⟩) hn]
      clear hD
      go_enter Tryz.func50, Tryz.ntmps50
      go_wp2_with (first | (go_at_call 62; refine (isName_ok u _ hus).mono ?_; rintro e w0 ⟨rfl, hw0⟩; obtain rfl := hw0.symm; rw [hnb]) | (go_at_call 37; refine (find_bad' _ _ s hs hn).mono ?_; rintro e w1 ⟨rfl, hw1⟩; obtain rfl := hw1.symm))
      go_ret
      exact ⟨rfl, Lv.step HDA.out (((((Below.refl _ _).alloc (Nat.le_refl _) _).alloc (by simp only [World.size_alloc]; omega) _).alloc (by simp only [World.size_alloc]; omega) _).alloc (by simp only [World.size_alloc]; omega) _)⟩
    | true =>
      have hs6 := nm_size hn
      cases hf : fd es s.data.toList with
      | none =>
        rw [oper_none (o := ⟨3, s.data.toList, u.data.toList, 0⟩) hn (fun _ => hnb) (by rw [← hab, lk_ab]; show (fd es s.data.toList).map _ = none; rw [hf]; rfl)]
        clear hD
        go_enter Tryz.func50, Tryz.ntmps50
        go_wp2_with (first | (go_at_call 62; refine (isName_ok u _ hus).mono ?_; rintro e w0 ⟨rfl, hw0⟩; obtain rfl := hw0.symm; rw [hnb]) | (go_at_call 37; refine (find_none _ B p m _ (HD.out.step HBP.out) s (by omega) hn hf).mono ?_; rintro e w1 ⟨rfl, hw1⟩; obtain rfl := hw1.symm))
        go_ret
        exact ⟨rfl, Lv.step HDA.out (((((Below.refl _ _).alloc (Nat.le_refl _) _).alloc (by simp only [World.size_alloc]; omega) _).alloc (by simp only [World.size_alloc]; omega) _).alloc (by simp only [World.size_alloc]; omega) _)⟩
      | some f =>
        have hsome : (lk x.fs s.data.toList).isSome = true := by rw [← hab, lk_ab]; show ((fd es s.data.toList).map _).isSome = true; rw [hf]; rfl
        have HBF : Hid (Below w.heap.size w ((((w.alloc (.cells #[.pointer (some ⟨p, 0, none⟩)] 37)).alloc (.cells #[.string s] 9)).alloc (.cells #[.string u] 9)).alloc (.cells #[ptr f.q] 76))) := (((((Below.refl _ _).alloc (Nat.le_refl _) _).alloc (by simp only [World.size_alloc]; omega) _).alloc (by simp only [World.size_alloc]; omega) _).alloc (by simp only [World.size_alloc]; omega) _)
        cases hon : x.on with
        | false =>
          rw [oper_off (o := ⟨3, s.data.toList, u.data.toList, 0⟩) hn (fun _ => hnb) hsome hon]
          clear hD
          go_enter Tryz.func50, Tryz.ntmps50
          go_wp2_with (first | (go_at_call 62; refine (isName_ok u _ hus).mono ?_; rintro e w0 ⟨rfl, hw0⟩; obtain rfl := hw0.symm; rw [hnb]) | (go_at_call 37; refine (find_some _ B p m _ (HD.out.step HBP.out) s (by omega) hn f hf).mono ?_; rintro e w1 ⟨rfl, hw1⟩; obtain rfl := hw1.symm; unfold ptr))
          refine (perf_down _ B p m _ (HD.out.step HBF.out) hon _ _).mono ?_
          rintro e w2 ⟨rfl, rfl⟩
          go_wp2
          go_ret
          exact ⟨rfl, Lv.step HDA.out HBF.out⟩
        | true =>
          rw [oper_on (o := ⟨3, s.data.toList, u.data.toList, 0⟩) hn (fun _ => hnb) hsome hon]
          obtain ⟨l1, l2, hx, hnm, hl1⟩ := fd_split hf
          have hu0 : u0 = .nilFunc := by rw [hun hon] at hu; exact hu
          have hlen := HD.out.flen hx
          clear hD
          have V0 := va_new w [.pointer (some ⟨p, 0, none⟩)] 37
          replace V0 := V0.alloc (.cells #[.string s] 9)
          replace V0 := V0.alloc (.cells #[.string u] 9)
          replace V0 := V0.alloc (.cells #[ptr f.q] 76)
          have HV0 := (show Hid _ from V0)
          have V1 := va_new (w.alloc (.cells #[.pointer (some ⟨p, 0, none⟩)] 37)) [.string s] 9
          replace V1 := V1.alloc (.cells #[.string u] 9)
          replace V1 := V1.alloc (.cells #[ptr f.q] 76)
          simp only [World.size_alloc, Nat.add_assoc, Nat.reduceAdd] at V1
          have HV1 := (show Hid _ from V1)
          have V2 := va_new ((w.alloc (.cells #[.pointer (some ⟨p, 0, none⟩)] 37)).alloc (.cells #[.string s] 9)) [.string u] 9
          replace V2 := V2.alloc (.cells #[ptr f.q] 76)
          simp only [World.size_alloc, Nat.add_assoc, Nat.reduceAdd] at V2
          have HV2 := (show Hid _ from V2)
          have V3 := va_new (((w.alloc (.cells #[.pointer (some ⟨p, 0, none⟩)] 37)).alloc (.cells #[.string s] 9)).alloc (.cells #[.string u] 9)) [ptr f.q] 76
          simp only [World.size_alloc, Nat.add_assoc, Nat.reduceAdd] at V3
          have HV3 := (show Hid _ from V3)
          clear V0 V1 V2 V3
          by_cases hst : (begA x).on = true
          · rw [if_pos hst]
            have HR : Hid (∀ w3, Hdr ((((w.alloc (.cells #[.pointer (some ⟨p, 0, none⟩)] 37)).alloc (.cells #[.string s] 9)).alloc (.cells #[.string u] 9)).alloc (.cells #[ptr f.q] 76)) w3 B p m (beg ⟨x.room, x.ops, x.left, x.on, u0, es⟩) → Calls Tryz.prog 74 #[ptr (w.heap.size), ptr (w.heap.size + 1), ptr (w.heap.size + 3), ptr (w.heap.size + 2)] w3 fun r w' => (∃ v, r = .returned v) ∧ Lv w w' B p m { begA x with fs := doOp ⟨3, s.data.toList, u.data.toList, 0⟩ x.fs }) := fun w3 h3 => by
              refine (ren1_ok w3 B p m _ h3.1 w.heap.size (w.heap.size + 1) (w.heap.size + 3) (w.heap.size + 2) s u hs6 (nm_size hnb) f hf (HV0.out.kee h3.2.1 (by unfold Dt; decide)) (HV1.out.kee h3.2.1 (by unfold Dt; decide)) (HV3.out.kee h3.2.1 (by unfold Dt; decide)) (HV2.out.kee h3.2.1 (by unfold Dt; decide)) _ rfl).mono ?_
              rintro r w' ⟨hr, hD', hk', hb'⟩
              refine ⟨hr, ⟨_, u0, hD', ?_, ?_, fun _ => hun hon⟩, ((Kee.bel HBF.out).trans h3.2.1).trans hk', ((HBF.out.mono HLT.out).trans h3.2.2).trans hb'⟩
              · show ab ((es.filter _).filter _ ++ [_]) = _
                rw [ab_ren hf 0, hab]
              · show Und w' p _ x.und u0
                rw [hun hon]
                exact hu0
            go_enter Tryz.func50, Tryz.ntmps50
            go_wp2_with (first | (go_at_call 62; refine (isName_ok u _ hus).mono ?_; rintro e w0 ⟨rfl, hw0⟩; obtain rfl := hw0.symm; rw [hnb]) | (go_at_call 37; refine (find_some _ B p m _ (HD.out.step HBP.out) s (by omega) hn f hf).mono ?_; rintro e w1 ⟨rfl, hw1⟩; obtain rfl := hw1.symm; unfold ptr))
            refine (perf_renam _ B p m _ (HD.out.step HBF.out) hon ho hlf _ _ _ _ hst _ HR.out).mono ?_
            rintro e w2 ⟨rfl, h2⟩
            go_wp2
            go_ret
            exact ⟨rfl, h2⟩
          · rw [if_neg hst]
            have hst : (begA x).on = false := by simpa using hst
            go_enter Tryz.func50, Tryz.ntmps50
            go_wp2_with (first | (go_at_call 62; refine (isName_ok u _ hus).mono ?_; rintro e w0 ⟨rfl, hw0⟩; obtain rfl := hw0.symm; rw [hnb]) | (go_at_call 37; refine (find_some _ B p m _ (HD.out.step HBP.out) s (by omega) hn f hf).mono ?_; rintro e w1 ⟨rfl, hw1⟩; obtain rfl := hw1.symm; unfold ptr))
            refine (perf_renam_off _ B p m _ (HD.out.step HBF.out) hon ho hlf (w.heap.size) (w.heap.size + 1) (w.heap.size + 3) (w.heap.size + 2) hst).mono ?_
            rintro e w2 ⟨rfl, h2⟩
            go_wp2
            go_ret
            refine ⟨rfl, ⟨es, _, h2.1, hab, .inr (.inr (.inl ⟨rfl, hnb, _, _, _, _, f, hf, rfl, HV0.out.kee h2.2.1 (by unfold Dt; decide), by show VA w2 _ [.string ⟨s.data.toList.toArray⟩] _; rw [bytes_back]; exact HV1.out.kee h2.2.1 (by unfold Dt; decide), HV3.out.kee h2.2.1 (by unfold Dt; decide), by show VA w2 _ [.string ⟨u.data.toList.toArray⟩] _; rw [bytes_back]; exact HV2.out.kee h2.2.1 (by unfold Dt; decide)⟩)), fun e => ?_⟩, (Kee.bel HBF.out).trans h2.2.1, (HBF.out.mono HLT.out).trans h2.2.2⟩
            have e' : (begA x).on = true := e
            rw [hst] at e'
            cases e'
theorem remove_any (w : World) (B p m : Nat) (x : AD) (h : DA w B p m x) (s : ByteArray) (hs : s.size ≤ 9223372036854775807) (ho : x.ops ≤ 4611686018427387904) (hlf : x.left ≤ 9223372036854775807) :
    Calls Tryz.prog 32 #[ptr p, .string s] w fun r w' => r = .returned (.int .i64 ((oper x ⟨4, s.data.toList, [], 0⟩).1 : Nat)) ∧ Lv w w' B p m (oper x ⟨4, s.data.toList, [], 0⟩).2 := by
  have HDA : Hid (DA w B p m x) := h
  have HLT : Hid (B ≤ w.heap.size) := h.lt
  obtain ⟨es, u0, hD, hab, hu, hun⟩ := h
  have HD := (show Hid _ from hD)
  have hp : (ptr p) = .pointer (some ⟨p, 0, none⟩) := rfl
  rw [hp]
  have HBP : Hid (Below w.heap.size w ((w.alloc (.cells #[.pointer (some ⟨p, 0, none⟩)] 37)).alloc (.cells #[.string s] 9))) := (((Below.refl _ _).alloc (Nat.le_refl _) _).alloc (by simp only [World.size_alloc]; omega) _)
  cases hn : isNm s.data.toList with
  | false =>
    rw [oper_bad (o := ⟨4, s.data.toList, [], 0⟩) hn]
    clear hD
    go_enter Tryz.func32, Tryz.ntmps32
    go_wp2_with (first | (go_at_call 37; refine (find_bad' _ _ s hs hn).mono ?_; rintro e w1 ⟨rfl, hw1⟩; obtain rfl := hw1.symm))
    go_ret
    exact ⟨rfl, Lv.step HDA.out (((Below.refl _ _).alloc (Nat.le_refl _) _).alloc (by simp only [World.size_alloc]; omega) _)⟩
  | true =>
    have hs6 := nm_size hn
    cases hf : fd es s.data.toList with
    | none =>
      rw [oper_none (o := ⟨4, s.data.toList, [], 0⟩) hn (by simp) (by rw [← hab, lk_ab]; show (fd es s.data.toList).map _ = none; rw [hf]; rfl)]
      clear hD
      go_enter Tryz.func32, Tryz.ntmps32
      go_wp2_with (first | (go_at_call 37; refine (find_none _ B p m _ (HD.out.step HBP.out) s (by omega) hn hf).mono ?_; rintro e w1 ⟨rfl, hw1⟩; obtain rfl := hw1.symm))
      go_ret
      exact ⟨rfl, Lv.step HDA.out (((Below.refl _ _).alloc (Nat.le_refl _) _).alloc (by simp only [World.size_alloc]; omega) _)⟩
    | some f =>
      have hsome : (lk x.fs s.data.toList).isSome = true := by rw [← hab, lk_ab]; show ((fd es s.data.toList).map _).isSome = true; rw [hf]; rfl
      have HBF : Hid (Below w.heap.size w ((w.alloc (.cells #[.pointer (some ⟨p, 0, none⟩)] 37)).alloc (.cells #[.string s] 9))) := (((Below.refl _ _).alloc (Nat.le_refl _) _).alloc (by simp only [World.size_alloc]; omega) _)
      cases hon : x.on with
      | false =>
        rw [oper_off (o := ⟨4, s.data.toList, [], 0⟩) hn (by simp) hsome hon]
        clear hD
        go_enter Tryz.func32, Tryz.ntmps32
        go_wp2_with (first | (go_at_call 37; refine (find_some _ B p m _ (HD.out.step HBP.out) s (by omega) hn f hf).mono ?_; rintro e w1 ⟨rfl, hw1⟩; obtain rfl := hw1.symm; unfold ptr))
        refine (perf_down _ B p m _ (HD.out.step HBF.out) hon _ _).mono ?_
        rintro e w2 ⟨rfl, rfl⟩
        go_wp2
        go_ret
        exact ⟨rfl, Lv.step HDA.out HBF.out⟩
      | true =>
        rw [oper_on (o := ⟨4, s.data.toList, [], 0⟩) hn (by simp) hsome hon]
        obtain ⟨l1, l2, hx, hnm, hl1⟩ := fd_split hf
        have hu0 : u0 = .nilFunc := by rw [hun hon] at hu; exact hu
        have hlen := HD.out.flen hx
        clear hD
        have V0 := va_new w [.pointer (some ⟨p, 0, none⟩)] 37
        replace V0 := V0.alloc (.cells #[.string s] 9)
        have HV0 := (show Hid _ from V0)
        have V1 := va_new (w.alloc (.cells #[.pointer (some ⟨p, 0, none⟩)] 37)) [.string s] 9
        simp only [World.size_alloc, Nat.add_assoc, Nat.reduceAdd] at V1
        have HV1 := (show Hid _ from V1)
        clear V0 V1
        by_cases hst : (begA x).on = true
        · rw [if_pos hst]
          have HR : Hid (∀ w3, Hdr ((w.alloc (.cells #[.pointer (some ⟨p, 0, none⟩)] 37)).alloc (.cells #[.string s] 9)) w3 B p m (beg ⟨x.room, x.ops, x.left, x.on, u0, es⟩) → Calls Tryz.prog 59 #[ptr (w.heap.size), ptr (w.heap.size + 1)] w3 fun r w' => (∃ v, r = .returned v) ∧ Lv w w' B p m { begA x with fs := doOp ⟨4, s.data.toList, [], 0⟩ x.fs }) := fun w3 h3 => by
            refine (rem1_ok w3 B p m _ h3.1 w.heap.size (w.heap.size + 1) s hs6 (HV0.out.kee h3.2.1 (by unfold Dt; decide)) (HV1.out.kee h3.2.1 (by unfold Dt; decide))).mono ?_
            rintro r w' ⟨hr, hD', hk', hb'⟩
            refine ⟨hr, ⟨_, u0, hD', ?_, ?_, fun _ => hun hon⟩, ((Kee.bel HBF.out).trans h3.2.1).trans hk', ((HBF.out.mono HLT.out).trans h3.2.2).trans hb'⟩
            · show ab (es.filter _) = _
              rw [ab_rem es s.data.toList [] 0, hab]
            · show Und w' p _ x.und u0
              rw [hun hon]
              exact hu0
          go_enter Tryz.func32, Tryz.ntmps32
          go_wp2_with (first | (go_at_call 37; refine (find_some _ B p m _ (HD.out.step HBP.out) s (by omega) hn f hf).mono ?_; rintro e w1 ⟨rfl, hw1⟩; obtain rfl := hw1.symm; unfold ptr))
          refine (perf_remov _ B p m _ (HD.out.step HBF.out) hon ho hlf _ _ hst _ HR.out).mono ?_
          rintro e w2 ⟨rfl, h2⟩
          go_wp2
          go_ret
          exact ⟨rfl, h2⟩
        · rw [if_neg hst]
          have hst : (begA x).on = false := by simpa using hst
          go_enter Tryz.func32, Tryz.ntmps32
          go_wp2_with (first | (go_at_call 37; refine (find_some _ B p m _ (HD.out.step HBP.out) s (by omega) hn f hf).mono ?_; rintro e w1 ⟨rfl, hw1⟩; obtain rfl := hw1.symm; unfold ptr))
          refine (perf_remov_off _ B p m _ (HD.out.step HBF.out) hon ho hlf (w.heap.size) (w.heap.size + 1) hst).mono ?_
          rintro e w2 ⟨rfl, h2⟩
          go_wp2
          go_ret
          refine ⟨rfl, ⟨es, _, h2.1, hab, .inr (.inr (.inr ⟨rfl, _, _, f, hf, rfl, HV0.out.kee h2.2.1 (by unfold Dt; decide), by show VA w2 _ [.string ⟨s.data.toList.toArray⟩] _; rw [bytes_back]; exact HV1.out.kee h2.2.1 (by unfold Dt; decide)⟩)), fun e => ?_⟩, (Kee.bel HBF.out).trans h2.2.1, (HBF.out.mono HLT.out).trans h2.2.2⟩
          have e' : (begA x).on = true := e
          rw [hst] at e'
          cases e'
end Go.Proofs.YtgabklihgjjjeaaGreatDoor
