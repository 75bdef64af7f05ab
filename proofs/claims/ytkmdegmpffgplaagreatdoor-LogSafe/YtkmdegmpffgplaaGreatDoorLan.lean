/- disk XXV: the closures of Remove and Rename. -/
import Derived.Test.YtkmdegmpffgplaaGreatDoorLam
namespace Go.Proofs.YtkmdegmpffgplaaGreatDoor
open Go.RowKit Go.Maps Go.Sort Go.Shelf pk
set_option linter.unusedVariables false
set_option linter.unusedSimpArgs false

theorem but_kee {w w' : World} {B p m : Nat} {x : DK} (h : Dsk w B p m x) (k : But (fun i => i = m) w w') : Kee w w' ∧ Below B w w' :=
  ⟨kee_but k (fun i hi cs T z hc => by obtain ⟨_, _, hmw⟩ := map_blk h.mp; rw [hi, hmw] at hc; cases hc), k.below (Nat.le_trans h.lo.1 (Nat.le_of_lt h.va.lt)) (fun i hi => by rw [hi]; exact h.lo.2)⟩
set_option maxRecDepth 100000 in
theorem rem1_ok (w : World) (B p m : Nat) (x : DK) (h : Dsk w B p m x) (Bd Ba : Nat) (s : ByteArray) (hs : s.size ≤ 16) (hd : VA w Bd [ptr p] 41) (ha : VA w Ba [.string s] 9) :
    Calls Tryz.prog 79 #[ptr Bd, ptr Ba] w fun r w' => (∃ v, r = .returned v) ∧ Dsk w' B p m { x with es := x.es.filter (fun e => decide (e.nm ≠ s.data.toList)) } ∧ Kee w w' ∧ Below B w w' := by
  have hsl : s.data.toList.length ≤ 16 := by have : s.data.toList.length = s.size := by cases s; rfl
                                             omega
  have hp : (ptr p) = .pointer (some ⟨p, 0, none⟩) := rfl
  have hpd : (ptr Bd) = .pointer (some ⟨Bd, 0, none⟩) := rfl
  have hpa : (ptr Ba) = .pointer (some ⟨Ba, 0, none⟩) := rfl
  rw [hp] at hd
  rw [hpd, hpa]
  have HH := (show Hid _ from h)
  go_enter Tryz.func79, Tryz.ntmps79
  go_wp2_with fail
  refine wp_region_noPanic ?_
  refine wp_region_held_drew (S := fun V => VA V p [.int .i64 x.room, .map (some m), .bool x.on, .int .i64 x.ops, .int .i64 x.left, x.und] 106 ∧ VA V Bd [.pointer (some ⟨p, 0, none⟩)] 41 ∧ VA V Ba [.string s] 9) (by kernel_rfl) ⟨h.va.drew, hd.drew, ha.drew⟩ ?_
  intro hHeld
  have b0 : Below w.heap.size w w.drew := (Below.refl _ _).drew
  generalize w.drew = W0 at *
  refine takeD 0 2 (.pointer (some ⟨p, 0, none⟩)) (by exact rfl) rfl (by kernel_rfl) (by kernel_rfl) (by kernel_rfl) (fun _ _ _ h => h) (Or.inl ⟨by rfl, ?_⟩) (by assumption) ?_
  · intro wq hS
    have c := hS.2.1.cell 0 rfl
    go_simp
  try simp only [Act.put, List.setIfInBounds_toArray, List.set_cons_zero, List.set_cons_succ]
  refine takeD 1 3 (.pointer (some ⟨p, 0, none⟩)) (by exact rfl) rfl (by kernel_rfl) (by kernel_rfl) (by kernel_rfl) (fun _ _ _ h => h) (Or.inl ⟨by rfl, ?_⟩) (by assumption) ?_
  · intro wq hS
    go_simp
  try simp only [Act.put, List.setIfInBounds_toArray, List.set_cons_zero, List.set_cons_succ]
  refine takeD 2 4 (.pointer (some ⟨p, 1, none⟩)) (by exact rfl) rfl (by kernel_rfl) (by kernel_rfl) (by kernel_rfl) (fun _ _ _ h => h) (Or.inl ⟨by rfl, ?_⟩) (by assumption) ?_
  · intro wq hS
    go_simp
  try simp only [Act.put, List.setIfInBounds_toArray, List.set_cons_zero, List.set_cons_succ]
  refine takeD 3 5 (.map (some m)) (by exact rfl) rfl (by kernel_rfl) (by kernel_rfl) (by kernel_rfl) (fun _ _ _ h => h) (Or.inl ⟨by rfl, ?_⟩) (by assumption) ?_
  · intro wq hS
    have c := hS.1.cell 1 (v := .map (some m)) rfl
    go_simp
  try simp only [Act.put, List.setIfInBounds_toArray, List.set_cons_zero, List.set_cons_succ]
  refine takeD 4 6 (.string s) (by exact rfl) rfl (by kernel_rfl) (by kernel_rfl) (by kernel_rfl) (fun _ _ _ h => h) (Or.inl ⟨by rfl, ?_⟩) (by assumption) ?_
  · intro wq hS
    have c := hS.2.2.cell 0 rfl
    go_simp
  try simp only [Act.put, List.setIfInBounds_toArray, List.set_cons_zero, List.set_cons_succ]
  refine wpAnyH_ready (rs := [5]) (by kernel_rfl) (by simp) ?_
  refine AllReadyH.cons (by exact rfl) (fun K hK => ?_) AllReadyH.nil
  have M5 : MapF W0 9 m x.es.length (mf x.es) := HH.out.mp.step b0
  refine dlMd (by rfl) _ _ 104 9 rfl 110 keyedS Tryz.underlying104 m x.es.length (mf x.es) (by rfl) M5 (.string s) (.string s.data.toList) (by rfl) (keyS (by omega)) ?_
  intro W7 M7 t7
  obtain ⟨ms, mc, hmb⟩ := map_blk M5
  have hb7 := turned_but t7
  have P7 := hHeld.1.but hb7 (fun er => by rw [← er, hHeld.1.blk] at hmb; cases hmb)
  have F7 := hHeld.2.1.but hb7 (fun er => by rw [← er, hHeld.2.1.blk] at hmb; cases hmb)
  have G7 := hHeld.2.2.but hb7 (fun er => by rw [← er, hHeld.2.2.blk] at hmb; cases hmb)
  refine hK.out _ _ ⟨P7, F7, G7⟩ (fun hHeld7 => ?_)
  clear hK K
  refine wpAnyH_done (by kernel_rfl) ?_ _
  refine NoPanic.normal ?_
  have bt7 : But (fun i => i = m) w W7 := (below_but b0 _).trans hb7 (fun _ _ h => h)
  have hk := but_kee HH.out bt7
  have hD := HH.out.del hsl bt7 M7
  have HF := (show Hid _ from And.intro hD hk)
  clear hk hD P7 F7 G7 hHeld hHeld7 M5 M7 t7 hb7 hmb
  go_wp2_with fail
  go_end0
  exact ⟨⟨_, rfl⟩, HF.out⟩
end Go.Proofs.YtkmdegmpffgplaaGreatDoor
/- disk XXVI: Truncate, Rename, Remove, whatever comes. -/
namespace Go.Proofs.YtkmdegmpffgplaaGreatDoor
open Go.RowKit Go.Maps Go.Sort Go.Shelf pk
set_option linter.unusedVariables false
set_option linter.unusedSimpArgs false

theorem ab_ren {es : List Ent} {a b : List UInt8} {f : Ent} (hf : fd es a = some f) (n : Nat) : ab ((es.filter (fun e => decide (e.nm ≠ a))).filter (fun e => decide (e.nm ≠ b)) ++ [{ f with nm := b }]) = doOp ⟨3, a, b, n⟩ (ab es) := by
  have h1 : lk (ab es) a = some (f.nm, f.ss, f.sy) := by rw [lk_ab, hf]; rfl
  unfold doOp
  rw [if_neg (by simp), if_neg (by simp), if_pos rfl]
  show _ = (match lk (ab es) a with | none => ab es | some t => (ab es).filter (fun (u : List UInt8 × List (List Nat) × Nat) => decide (u.1 ≠ a ∧ u.1 ≠ b)) ++ [(b, t.2.1, t.2.2)])
  rw [h1, ab_app]
  congr 1
  rw [List.filter_filter, ab_filter es (fun l => decide (l ≠ b) && decide (l ≠ a))]
  congr 1
  funext u
  by_cases h2 : u.1 = a <;> by_cases h3 : u.1 = b <;> simp [h2, h3]
theorem ab_rem (es : List Ent) (a b : List UInt8) (n : Nat) : ab (es.filter (fun e => decide (e.nm ≠ a))) = doOp ⟨4, a, b, n⟩ (ab es) := by
  rw [ab_filter es (fun l => decide (l ≠ a))]
  rfl
theorem bytes_back (s : ByteArray) : (⟨s.data.toList.toArray⟩ : ByteArray) = s := by cases s; simp
theorem perf_remov (w : World) (B p m : Nat) (x : DK) (h : Dsk w B p m x) (hon : x.on = true) (ho : x.ops ≤ 4611686018427387904) (hlf : x.left ≤ 9223372036854775807) (Bd Ba : Nat) (hst : (beg x).on = true) (R : World → Prop)
    (hcl : ∀ w3, Hdr w w3 B p m (beg x) → Calls Tryz.prog 79 #[ptr Bd, ptr Ba] w3 fun r w' => (∃ v, r = .returned v) ∧ R w') :
    Calls Tryz.prog 78 #[ptr p, .func (.func 79) #[] #[ptr Bd, ptr Ba]] w fun r w' => r = .returned (.int .i64 0) ∧ R w' := by
  have y := h.va.cell 2 (v := .bool x.on) rfl
  rw [hon] at y
  have HH := (show Hid _ from h)
  have HC : Hid (Unit → ∀ w3, Hdr w w3 B p m (beg x) → Calls Tryz.prog 79 #[ptr Bd, ptr Ba] w3 fun r w' => (∃ v, r = .returned v) ∧ R w') := fun _ => hcl
  clear h hcl
  have hp : (ptr p) = .pointer (some ⟨p, 0, none⟩) := rfl
  rw [hp]
  go_enter Tryz.func78, Tryz.ntmps78
  go_wp2_with (first | (go_at_call 53; refine (begin_ok _ B p m x HH.out hon ho hlf).mono ?_; rintro e w3 ⟨rfl, h3⟩; rw [hst]; have H3 := (show Hid _ from h3); clear h3) | (go_at_call 79; refine (HC.out () _ H3.out).mono ?_; rintro e w4 ⟨⟨v, rfl⟩, h4⟩))
  go_ret
  exact ⟨rfl, h4⟩
theorem perf_remov_off (w : World) (B p m : Nat) (x : DK) (h : Dsk w B p m x) (hon : x.on = true) (ho : x.ops ≤ 4611686018427387904) (hlf : x.left ≤ 9223372036854775807) (Bd Ba : Nat) (hst : (beg x).on = false) :
    Calls Tryz.prog 78 #[ptr p, .func (.func 79) #[] #[ptr Bd, ptr Ba]] w fun r w' => r = .returned (.int .i64 18) ∧ Hdr w w' B p m { beg x with und := .func (.func 79) #[] #[ptr Bd, ptr Ba] } := by
  have y := h.va.cell 2 (v := .bool x.on) rfl
  rw [hon] at y
  have HH := (show Hid _ from h)
  clear h
  have hp : (ptr p) = .pointer (some ⟨p, 0, none⟩) := rfl
  rw [hp]
  go_enter Tryz.func78, Tryz.ntmps78
  go_wp2_with (go_at_call 53; refine (begin_ok _ B p m x HH.out hon ho hlf).mono ?_; rintro e w3 ⟨rfl, h3⟩; rw [hst]; have H3 := (show Hid _ from h3); have y5 := h3.1.va.cell 5 (v := (beg x).und) rfl; have f5 := h3.1.va.free 5; have s5 := run_store Tryz.prog w3 ⟨p, 5, none⟩ (.func (.func 79) #[] #[ptr Bd, ptr Ba]) .plain rfl; simp only [y5, f5, Bool.false_eq_true, if_false] at s5; clear h3 y5 f5)
  go_ret
  have h4 := hdr_of H3.out.1 (upd_set _ p 5 (.func (.func 79) #[] #[ptr Bd, ptr Ba])) (beg x).ops (beg x).left (beg x).on (.func (.func 79) #[] #[ptr Bd, ptr Ba]) (H3.out.1.va.set 5 _)
  exact ⟨rfl, h4.1, H3.out.2.1.trans h4.2.1, H3.out.2.2.trans h4.2.2⟩
theorem trunc_any (w : World) (B p m : Nat) (x : AD) (h : DA w B p m x) (s : ByteArray) (hs : s.size ≤ 9223372036854775807) (n : Nat) (hn2 : n ≤ 9223372036854775807) (ho : x.ops ≤ 4611686018427387904) (hlf : x.left ≤ 9223372036854775807) :
    Calls Tryz.prog 97 #[ptr p, .string s, .int .i64 (n : Int)] w fun r w' => r = .returned (.int .i64 ((oper x ⟨2, s.data.toList, [], n⟩).1 : Nat)) ∧ Lv w w' B p m (oper x ⟨2, s.data.toList, [], n⟩).2 := by
  have HDA : Hid (DA w B p m x) := h
  have HLT : Hid (B ≤ w.heap.size) := h.lt
  obtain ⟨es, u0, hD, hab, hu, hun⟩ := h
  have HD := (show Hid _ from hD)
  have hp : (ptr p) = .pointer (some ⟨p, 0, none⟩) := rfl
  rw [hp]
  have d0 : (0 : Int) ≤ (n : Int) := by omega
  have HBP : Hid (Below w.heap.size w (w.alloc (.cells #[.int .i64 (n : Int)] 3))) := ((Below.refl _ _).alloc (Nat.le_refl _) _)
  cases hn : isNm s.data.toList with
  | false =>
    rw [oper_bad (o := ⟨2, s.data.toList, [], n⟩) hn]
    clear hD
    go_enter Tryz.func97, Tryz.ntmps97
    go_wp2_with (first | (go_at_call 55; refine (find_bad' _ _ s hs hn).mono ?_; rintro e w1 ⟨rfl, hw1⟩; obtain rfl := hw1.symm))
    go_ret
    exact ⟨rfl, Lv.step HDA.out (((Below.refl _ _).alloc (Nat.le_refl _) _).alloc (by simp only [World.size_alloc]; omega) _)⟩
  | true =>
    have hs6 := nm_size hn
    cases hf : fd es s.data.toList with
    | none =>
      rw [oper_none (o := ⟨2, s.data.toList, [], n⟩) hn (by simp) (by rw [← hab, lk_ab]; show (fd es s.data.toList).map _ = none; rw [hf]; rfl)]
      clear hD
      go_enter Tryz.func97, Tryz.ntmps97
      go_wp2_with (first | (go_at_call 55; refine (find_none _ B p m _ (HD.out.step HBP.out) s (by omega) hn hf).mono ?_; rintro e w1 ⟨rfl, hw1⟩; obtain rfl := hw1.symm))
      go_ret
      exact ⟨rfl, Lv.step HDA.out (((Below.refl _ _).alloc (Nat.le_refl _) _).alloc (by simp only [World.size_alloc]; omega) _)⟩
    | some f =>
      have hsome : (lk x.fs s.data.toList).isSome = true := by rw [← hab, lk_ab]; show ((fd es s.data.toList).map _).isSome = true; rw [hf]; rfl
      have HBF : Hid (Below w.heap.size w ((w.alloc (.cells #[.int .i64 (n : Int)] 3)).alloc (.cells #[ptr f.q] 110))) := (((Below.refl _ _).alloc (Nat.le_refl _) _).alloc (by simp only [World.size_alloc]; omega) _)
      cases hon : x.on with
      | false =>
        rw [oper_off (o := ⟨2, s.data.toList, [], n⟩) hn (by simp) hsome hon]
        clear hD
        go_enter Tryz.func97, Tryz.ntmps97
        go_wp2_with (first | (go_at_call 55; refine (find_some _ B p m _ (HD.out.step HBP.out) s (by omega) hn f hf).mono ?_; rintro e w1 ⟨rfl, hw1⟩; obtain rfl := hw1.symm; unfold ptr))
        refine (perf_down _ B p m _ (HD.out.step HBF.out) hon _ _).mono ?_
        rintro e w2 ⟨rfl, rfl⟩
        go_wp2
        go_ret
        exact ⟨rfl, Lv.step HDA.out HBF.out⟩
      | true =>
        rw [oper_on (o := ⟨2, s.data.toList, [], n⟩) hn (by simp) hsome hon]
        obtain ⟨l1, l2, hx, hnm, hl1⟩ := fd_split hf
        have hu0 : u0 = .nilFunc := by rw [hun hon] at hu; exact hu
        have hlen := HD.out.flen hx
        clear hD
        have V0 := va_new w [.int .i64 (n : Int)] 3
        replace V0 := V0.alloc (.cells #[ptr f.q] 110)
        have HV0 := (show Hid _ from V0)
        have V1 := va_new (w.alloc (.cells #[.int .i64 (n : Int)] 3)) [ptr f.q] 110
        simp only [World.size_alloc, Nat.add_assoc, Nat.reduceAdd] at V1
        have HV1 := (show Hid _ from V1)
        clear V0 V1
        by_cases hst : (begA x).on = true
        · rw [if_pos hst]
          have HR : Hid (∀ w3, Hdr ((w.alloc (.cells #[.int .i64 (n : Int)] 3)).alloc (.cells #[ptr f.q] 110)) w3 B p m (beg ⟨x.room, x.ops, x.left, x.on, u0, es⟩) → Calls Tryz.prog 113 #[ptr (w.heap.size + 1), ptr (w.heap.size)] w3 fun r w' => (∃ v, r = .returned v) ∧ Lv w w' B p m { begA x with fs := doOp ⟨2, s.data.toList, [], n⟩ x.fs }) := fun w3 h3 => by
            refine (trunc1_ok w3 B (w.heap.size + 1) w.heap.size f (h3.1.fil f (fd_mem hf).1) (HV1.out.kee h3.2.1 (by unfold Dt; decide)) n hn2 (HV0.out.kee h3.2.1 (by unfold Dt; decide)) hlen (Nat.le_trans h3.1.lo.1 (Nat.le_of_lt h3.1.va.lt))).mono ?_
            rintro r w' ⟨hr, hc⟩
            have hfl := h3.1.fil f (fd_mem hf).1
            obtain ⟨es', hD', hab'⟩ := h3.1.chf hx hc (by rw [List.length_take]; omega)
            refine ⟨hr, ⟨es', u0, hD', ?_, ?_, fun _ => hun hon⟩, ((Kee.bel HBF.out).trans h3.2.1).trans (hc.kee hfl), ((HBF.out.mono HLT.out).trans h3.2.2).trans (hc.bel hfl (Nat.le_trans h3.1.lo.1 (Nat.le_of_lt h3.1.va.lt)))⟩
            · rw [hab']
              show upd1 (ab es) f.nm (f.ss.take n) (min n f.ss.length) = _
              rw [upd1_trunc HD.out.ap hf [] n, hab]
            · show Und w' p es' x.und u0
              rw [hun hon]
              exact hu0
          go_enter Tryz.func97, Tryz.ntmps97
          go_wp2_with (first | (go_at_call 55; refine (find_some _ B p m _ (HD.out.step HBP.out) s (by omega) hn f hf).mono ?_; rintro e w1 ⟨rfl, hw1⟩; obtain rfl := hw1.symm; unfold ptr))
          refine (perf_trunc _ B p m _ (HD.out.step HBF.out) hon ho hlf _ _ hst _ HR.out).mono ?_
          rintro e w2 ⟨rfl, h2⟩
          go_wp2
          go_ret
          exact ⟨rfl, h2⟩
        · rw [if_neg hst]
          have hst : (begA x).on = false := by simpa using hst
          go_enter Tryz.func97, Tryz.ntmps97
          go_wp2_with (first | (go_at_call 55; refine (find_some _ B p m _ (HD.out.step HBP.out) s (by omega) hn f hf).mono ?_; rintro e w1 ⟨rfl, hw1⟩; obtain rfl := hw1.symm; unfold ptr))
          refine (perf_trunc_off _ B p m _ (HD.out.step HBF.out) hon ho hlf (w.heap.size + 1) (w.heap.size) hst).mono ?_
          rintro e w2 ⟨rfl, h2⟩
          go_wp2
          go_ret
          refine ⟨rfl, ⟨es, _, h2.1, hab, .inr (.inl ⟨rfl, hn2, _, _, f, hf, rfl, HV1.out.kee h2.2.1 (by unfold Dt; decide), HV0.out.kee h2.2.1 (by unfold Dt; decide)⟩), fun e => ?_⟩, (Kee.bel HBF.out).trans h2.2.1, (HBF.out.mono HLT.out).trans h2.2.2⟩
          have e' : (begA x).on = true := e
          rw [hst] at e'
          cases e'
theorem remove_any (w : World) (B p m : Nat) (x : AD) (h : DA w B p m x) (s : ByteArray) (hs : s.size ≤ 9223372036854775807) (ho : x.ops ≤ 4611686018427387904) (hlf : x.left ≤ 9223372036854775807) :
    Calls Tryz.prog 48 #[ptr p, .string s] w fun r w' => r = .returned (.int .i64 ((oper x ⟨4, s.data.toList, [], 0⟩).1 : Nat)) ∧ Lv w w' B p m (oper x ⟨4, s.data.toList, [], 0⟩).2 := by
  have HDA : Hid (DA w B p m x) := h
  have HLT : Hid (B ≤ w.heap.size) := h.lt
  obtain ⟨es, u0, hD, hab, hu, hun⟩ := h
  have HD := (show Hid _ from hD)
  have hp : (ptr p) = .pointer (some ⟨p, 0, none⟩) := rfl
  rw [hp]
  have HBP : Hid (Below w.heap.size w ((w.alloc (.cells #[.pointer (some ⟨p, 0, none⟩)] 41)).alloc (.cells #[.string s] 9))) := (((Below.refl _ _).alloc (Nat.le_refl _) _).alloc (by simp only [World.size_alloc]; omega) _)
  cases hn : isNm s.data.toList with
  | false =>
    rw [oper_bad (o := ⟨4, s.data.toList, [], 0⟩) hn]
    clear hD
    go_enter Tryz.func48, Tryz.ntmps48
    go_wp2_with (first | (go_at_call 55; refine (find_bad' _ _ s hs hn).mono ?_; rintro e w1 ⟨rfl, hw1⟩; obtain rfl := hw1.symm))
    go_ret
    exact ⟨rfl, Lv.step HDA.out (((Below.refl _ _).alloc (Nat.le_refl _) _).alloc (by simp only [World.size_alloc]; omega) _)⟩
  | true =>
    have hs6 := nm_size hn
    cases hf : fd es s.data.toList with
    | none =>
      rw [oper_none (o := ⟨4, s.data.toList, [], 0⟩) hn (by simp) (by rw [← hab, lk_ab]; show (fd es s.data.toList).map _ = none; rw [hf]; rfl)]
      clear hD
      go_enter Tryz.func48, Tryz.ntmps48
      go_wp2_with (first | (go_at_call 55; refine (find_none _ B p m _ (HD.out.step HBP.out) s (by omega) hn hf).mono ?_; rintro e w1 ⟨rfl, hw1⟩; obtain rfl := hw1.symm))
      go_ret
      exact ⟨rfl, Lv.step HDA.out (((Below.refl _ _).alloc (Nat.le_refl _) _).alloc (by simp only [World.size_alloc]; omega) _)⟩
    | some f =>
      have hsome : (lk x.fs s.data.toList).isSome = true := by rw [← hab, lk_ab]; show ((fd es s.data.toList).map _).isSome = true; rw [hf]; rfl
      have HBF : Hid (Below w.heap.size w ((w.alloc (.cells #[.pointer (some ⟨p, 0, none⟩)] 41)).alloc (.cells #[.string s] 9))) := (((Below.refl _ _).alloc (Nat.le_refl _) _).alloc (by simp only [World.size_alloc]; omega) _)
      cases hon : x.on with
      | false =>
        rw [oper_off (o := ⟨4, s.data.toList, [], 0⟩) hn (by simp) hsome hon]
        clear hD
        go_enter Tryz.func48, Tryz.ntmps48
        go_wp2_with (first | (go_at_call 55; refine (find_some _ B p m _ (HD.out.step HBP.out) s (by omega) hn f hf).mono ?_; rintro e w1 ⟨rfl, hw1⟩; obtain rfl := hw1.symm; unfold ptr))
        refine (perf_down _ B p m _ (HD.out.step HBF.out) hon _ _).mono ?_
        rintro e w2 ⟨rfl, rfl⟩
        go_wp2
        go_ret
        exact ⟨rfl, Lv.step HDA.out HBF.out⟩
      | true =>
        rw [oper_on (o := ⟨4, s.data.toList, [], 0⟩) hn (by simp) hsome hon]
        obtain ⟨l1, l2, hx, hnm, hl1⟩ := fd_split hf
        have hu0 : u0 = .nilFunc := by rw [hun hon] at hu; exact hu
        have hlen := HD.out.flen hx
        clear hD
        have V0 := va_new w [.pointer (some ⟨p, 0, none⟩)] 41
        replace V0 := V0.alloc (.cells #[.string s] 9)
        have HV0 := (show Hid _ from V0)
        have V1 := va_new (w.alloc (.cells #[.pointer (some ⟨p, 0, none⟩)] 41)) [.string s] 9
        simp only [World.size_alloc, Nat.add_assoc, Nat.reduceAdd] at V1
        have HV1 := (show Hid _ from V1)
        clear V0 V1
        by_cases hst : (begA x).on = true
        · rw [if_pos hst]
          have HR : Hid (∀ w3, Hdr ((w.alloc (.cells #[.pointer (some ⟨p, 0, none⟩)] 41)).alloc (.cells #[.string s] 9)) w3 B p m (beg ⟨x.room, x.ops, x.left, x.on, u0, es⟩) → Calls Tryz.prog 79 #[ptr (w.heap.size), ptr (w.heap.size + 1)] w3 fun r w' => (∃ v, r = .returned v) ∧ Lv w w' B p m { begA x with fs := doOp ⟨4, s.data.toList, [], 0⟩ x.fs }) := fun w3 h3 => by
            refine (rem1_ok w3 B p m _ h3.1 w.heap.size (w.heap.size + 1) s hs6 (HV0.out.kee h3.2.1 (by unfold Dt; decide)) (HV1.out.kee h3.2.1 (by unfold Dt; decide))).mono ?_
            rintro r w' ⟨hr, hD', hk', hb'⟩
            refine ⟨hr, ⟨_, u0, hD', ?_, ?_, fun _ => hun hon⟩, ((Kee.bel HBF.out).trans h3.2.1).trans hk', ((HBF.out.mono HLT.out).trans h3.2.2).trans hb'⟩
            · show ab (es.filter _) = _
              rw [ab_rem es s.data.toList [] 0, hab]
            · show Und w' p _ x.und u0
              rw [hun hon]
              exact hu0
          go_enter Tryz.func48, Tryz.ntmps48
          go_wp2_with (first | (go_at_call 55; refine (find_some _ B p m _ (HD.out.step HBP.out) s (by omega) hn f hf).mono ?_; rintro e w1 ⟨rfl, hw1⟩; obtain rfl := hw1.symm; unfold ptr))
          refine (perf_remov _ B p m _ (HD.out.step HBF.out) hon ho hlf _ _ hst _ HR.out).mono ?_
          rintro e w2 ⟨rfl, h2⟩
          go_wp2
          go_ret
          exact ⟨rfl, h2⟩
        · rw [if_neg hst]
          have hst : (begA x).on = false := by simpa using hst
          go_enter Tryz.func48, Tryz.ntmps48
          go_wp2_with (first | (go_at_call 55; refine (find_some _ B p m _ (HD.out.step HBP.out) s (by omega) hn f hf).mono ?_; rintro e w1 ⟨rfl, hw1⟩; obtain rfl := hw1.symm; unfold ptr))
          refine (perf_remov_off _ B p m _ (HD.out.step HBF.out) hon ho hlf (w.heap.size) (w.heap.size + 1) hst).mono ?_
          rintro e w2 ⟨rfl, h2⟩
          go_wp2
          go_ret
          refine ⟨rfl, ⟨es, _, h2.1, hab, .inr (.inr (.inr ⟨rfl, _, _, f, hf, rfl, HV0.out.kee h2.2.1 (by unfold Dt; decide), by show VA w2 _ [.string ⟨s.data.toList.toArray⟩] _; rw [bytes_back]; exact HV1.out.kee h2.2.1 (by unfold Dt; decide)⟩)), fun e => ?_⟩, (Kee.bel HBF.out).trans h2.2.1, (HBF.out.mono HLT.out).trans h2.2.2⟩
          have e' : (begA x).on = true := e
          rw [hst] at e'
          cases e'
end Go.Proofs.YtkmdegmpffgplaaGreatDoor
/- disk XXVII: Restart, whatever was left undone. -/
namespace Go.Proofs.YtkmdegmpffgplaaGreatDoor
open Go.RowKit Go.Maps Go.Sort Go.Shelf pk
set_option linter.unusedVariables false

theorem restart_on (w : World) (B p m : Nat) (x : AD) (h : DA w B p m x) (dn : Bool) (a : Option Addr) (n c : Nat) (hon : x.on = true) :
    Calls Tryz.prog 27 #[ptr p, .agg #[.bool dn, .slice a n c]] w fun r w' => r = .returned (.int .i64 14) ∧ Lv w w' B p m x := by
  have HDA : Hid (DA w B p m x) := h
  obtain ⟨es, u0, hD, hab, hu, hun⟩ := h
  have b1 := (Below.refl w.heap.size w).alloc (Nat.le_refl _) (.cells #[.bool dn, .slice a n c] 67)
  have V := (hD.step b1).va
  have y2 := V.cell 2 (v := .bool x.on) rfl
  rw [hon] at y2
  have HB1 := (show Hid _ from b1)
  clear hD b1 V
  have hp : (ptr p) = .pointer (some ⟨p, 0, none⟩) := rfl
  rw [hp]
  go_enter Tryz.func27, Tryz.ntmps27
  go_wp2_with fail
  go_ret
  exact ⟨rfl, Lv.step HDA.out HB1.out⟩
set_option maxRecDepth 100000 in
theorem restart_not (w : World) (B p m : Nat) (x : DK) (h : Dsk w B p m x) (kv : Value) (ks : List Bool) (hk : Bl w kv ks) (hkl : ks.length ≤ 140737488355328) (hks : Safe w kv) (hoff : x.on = false) :
    Calls Tryz.prog 27 #[ptr p, .agg #[.bool false, kv]] w fun r w' => r = .returned (.int .i64 0) ∧ Rst w w' B p m x ks := by
  have HB0 : Hid (B ≤ w.heap.size) := (show B ≤ w.heap.size from Nat.le_trans h.lo.1 (Nat.le_of_lt h.va.lt))
  have b1 := (Below.refl w.heap.size w).alloc (Nat.le_refl _) (.cells #[.bool false, kv] 67)
  have HH := (show Hid _ from h)
  have HV0 : Hid (VA w p [.int .i64 x.room, .map (some m), .bool false, .int .i64 x.ops, .int .i64 x.left, x.und] 106) := by have := h.va; rw [hoff] at this; exact this
  have V := (h.step b1).va
  rw [hoff] at V
  have y2 := V.cell 2 (v := .bool false) rfl
  have y5 := V.cell 5 (v := x.und) rfl
  have f5 := V.free 5
  have FV := va_new w [.bool false, kv] 67
  have z0 := FV.cell 0 (v := .bool false) rfl
  have z1 := FV.cell 1 (v := kv) rfl
  obtain ⟨ka, kc, hkv, _⟩ := hk.form
  have HK : Hid (Bl w kv ks) := hk
  have HS : Hid (Safe w kv) := hks
  have HB1 := (show Hid _ from b1)
  have hlp := h.va.lt
  clear h hk hks b1 V FV
  subst hkv
  have hp : (ptr p) = .pointer (some ⟨p, 0, none⟩) := rfl
  rw [hp]
  have s5 := run_store Tryz.prog (w.alloc (.cells #[.bool false, .slice ka ks.length kc] 67)) ⟨p, 5, none⟩ .nilFunc .plain rfl
  simp only [y5, f5, Bool.false_eq_true, if_false] at s5
  have h2 := hdr_of HH.out (upd_set w p 5 .nilFunc) x.ops x.left false .nilFunc (HV0.out.set 5 _)
  have b2 := (Below.refl (w.setCell ⟨p, 5, none⟩ .nilFunc).heap.size (w.setCell ⟨p, 5, none⟩ .nilFunc)).alloc (Nat.le_refl _) (.cells #[.bool false, .slice ka ks.length kc] 67)
  have k2 := h2.2.1.trans (Kee.bel b2)
  have HD2 : Hid (Dsk ((w.setCell ⟨p, 5, none⟩ .nilFunc).alloc (.cells #[.bool false, .slice ka ks.length kc] 67)) B p m { x with ops := x.ops, left := x.left, on := false, und := .nilFunc }) := h2.1.step b2
  have HK2 := (show Hid _ from HK.out.kee HS.out k2)
  have HS2 : Hid (Safe ((w.setCell ⟨p, 5, none⟩ .nilFunc).alloc (.cells #[.bool false, .slice ka ks.length kc] 67)) (.slice ka ks.length kc)) := HS.out.kee k2
  have HE2 := (show Hid _ from k2)
  have HL2 := (show Hid _ from h2.2.2.trans (b2.mono (by have := HB0.out; simp; omega)))
  clear b2 k2
  clear h2
  go_enter Tryz.func27, Tryz.ntmps27
  go_wp2_with (go_at_call 57; refine (settle_ok _ B p m _ HD2.out _ ks HK2.out hkl HS2.out).mono ?_; rintro r w3 ⟨⟨v, rfl⟩, ⟨ns, hpm, hsr, es', hab, hD⟩, hk3, hb3⟩; have y3 := hD.va.cell 2 (v := .bool false) rfl; have f3 := hD.va.free 2; have HD3 := (show Hid _ from hD); clear hD)
  go_ret
  have h4 := hdr_of HD3.out (upd_set w3 p 2 (.bool true)) x.ops x.left true .nilFunc (HD3.out.va.set 2 _)
  exact ⟨rfl, ⟨ns, hpm, hsr, es', hab, h4.1⟩, (HE2.out.trans hk3).trans h4.2.1, (HL2.out.trans hb3).trans h4.2.2⟩
set_option maxRecDepth 100000 in
theorem restart_sync (w : World) (B p m : Nat) (x : DK) (h : Dsk w B p m x) (kv : Value) (ks : List Bool) (hk : Bl w kv ks) (hkl : ks.length ≤ 140737488355328) (hks : Safe w kv) (hoff : x.on = false) (Bf : Nat) (hu : x.und = .func (.func 91) #[] #[ptr Bf]) (fs1 : FS)
    (hcl : ∀ w1, Below w.heap.size w w1 → Calls Tryz.prog 91 #[ptr Bf] w1 fun r w' => (∃ v, r = .returned v) ∧ (∃ es1, Dsk w' B p m { x with es := es1 } ∧ ab es1 = fs1) ∧ Kee w1 w' ∧ Below B w1 w') :
    Calls Tryz.prog 27 #[ptr p, .agg #[.bool true, kv]] w fun r w' => r = .returned (.int .i64 0) ∧ (∃ ns, ns.Perm (fs1.map (·.1)) ∧ ns.Pairwise (fun a b => a ≤ b) ∧ ∃ es', ab es' = (stl ks ns fs1).1 ∧ Dsk w' B p m { x with on := true, und := .nilFunc, es := es' }) ∧ Kee w w' ∧ Below B w w' := by
  have HB0 : Hid (B ≤ w.heap.size) := (show B ≤ w.heap.size from Nat.le_trans h.lo.1 (Nat.le_of_lt h.va.lt))
  have b1 := (Below.refl w.heap.size w).alloc (Nat.le_refl _) (.cells #[.bool true, kv] 67)
  have HH := (show Hid _ from h)
  have hup : x.und = .func (.func 91) #[] #[.pointer (some ⟨Bf, 0, none⟩)] := hu
  have V := (h.step b1).va
  rw [hoff, hup] at V
  have y2 := V.cell 2 (v := .bool false) rfl
  have y5 := V.cell 5 (v := .func (.func 91) #[] #[.pointer (some ⟨Bf, 0, none⟩)]) rfl
  have FV := va_new w [.bool true, kv] 67
  have z0 := FV.cell 0 (v := .bool true) rfl
  have z1 := FV.cell 1 (v := kv) rfl
  obtain ⟨ka, kc, hkv, _⟩ := hk.form
  have HK : Hid (Bl w kv ks) := hk
  have HS : Hid (Safe w kv) := hks
  have HB1 := (show Hid _ from b1)
  have HFV := (show Hid _ from FV)
  have hff : ∀ w : World, (binOp .neq 1 (.func (.func 91) #[] #[.pointer (some ⟨Bf, 0, none⟩)]) .nilFunc).run Tryz.prog w = .ok (.bool true) w := fun _ => rfl
  have HC : Hid (Unit → ∀ w1, Below w.heap.size w w1 → Calls Tryz.prog 91 #[ptr Bf] w1 fun r w' => (∃ v, r = .returned v) ∧ (∃ es1, Dsk w' B p m { x with es := es1 } ∧ ab es1 = fs1) ∧ Kee w1 w' ∧ Below B w1 w') := fun _ => hcl
  clear h hk hks b1 V FV hcl
  subst hkv
  have hp : (ptr p) = .pointer (some ⟨p, 0, none⟩) := rfl
  rw [hp]
  go_enter Tryz.func27, Tryz.ntmps27
  go_wp2_with (go_at_call 91; refine (HC.out () _ HB1.out).mono ?_; rintro r w2 ⟨⟨v, rfl⟩, ⟨es1, hD2, hab1⟩, hk2, hb2⟩)
  have HA1 := (show Hid _ from hab1)
  have HK2 := (show Hid _ from (Kee.bel HB1.out).trans hk2)
  have HL2 := (show Hid _ from (HB1.out.mono HB0.out).trans hb2)
  have w5 := hD2.va.cell 5 (v := x.und) rfl
  have g5 := hD2.va.free 5
  have s5 := run_store Tryz.prog w2 ⟨p, 5, none⟩ .nilFunc .plain rfl
  simp only [w5, g5, Bool.false_eq_true, if_false] at s5
  have V2 := hD2.va
  rw [show DK.on { x with es := es1 } = false from hoff] at V2
  have h3 := hdr_of hD2 (upd_set w2 p 5 .nilFunc) x.ops x.left false .nilFunc (V2.set 5 _)
  have k3 := HK2.out.trans h3.2.1
  have FV3 := HFV.out.kee (hk2.trans h3.2.1) (by unfold Dt; decide)
  have z3 := FV3.cell 1 (v := .slice ka ks.length kc) rfl
  have HD3 := (show Hid _ from h3.1)
  have HS3 : Hid (Safe (w2.setCell ⟨p, 5, none⟩ .nilFunc) (.slice ka ks.length kc)) := HS.out.kee k3
  have HK3 : Hid (Bl (w2.setCell ⟨p, 5, none⟩ .nilFunc) (.slice ka ks.length kc) ks) := HK.out.kee HS.out k3
  have HE3 := (show Hid _ from k3)
  have HL3 := (show Hid _ from HL2.out.trans h3.2.2)
  clear hab1 hk2 hb2 hD2 V2 h3 k3 FV3 w5 g5
  go_wp2_with (go_at_call 57; refine (settle_ok _ B p m _ HD3.out _ ks HK3.out hkl HS3.out).mono ?_; rintro r w4 ⟨⟨v, rfl⟩, ⟨ns, hpm, hsr, es', hab, hD⟩, hk4, hb4⟩; have y3 := hD.va.cell 2 (v := .bool false) rfl; have f3 := hD.va.free 2; have HD4 := (show Hid _ from hD); clear hD)
  go_ret
  have h5 := hdr_of HD4.out (upd_set w4 p 2 (.bool true)) x.ops x.left true .nilFunc (HD4.out.va.set 2 _)
  have hpm' : ns.Perm (es1.map (·.nm)) := hpm
  have hab' : ab es' = (stl ks ns (ab es1)).1 := hab
  rw [names_ab, HA1.out] at hpm'
  rw [HA1.out] at hab'
  exact ⟨rfl, ⟨ns, hpm', hsr, es', hab', h5.1⟩, (HE3.out.trans hk4).trans h5.2.1, (HL3.out.trans hb4).trans h5.2.2⟩
set_option maxRecDepth 100000 in
theorem restart_trunc (w : World) (B p m : Nat) (x : DK) (h : Dsk w B p m x) (kv : Value) (ks : List Bool) (hk : Bl w kv ks) (hkl : ks.length ≤ 140737488355328) (hks : Safe w kv) (hoff : x.on = false) (Bf Bn : Nat) (hu : x.und = .func (.func 113) #[] #[ptr Bf, ptr Bn]) (fs1 : FS)
    (hcl : ∀ w1, Below w.heap.size w w1 → Calls Tryz.prog 113 #[ptr Bf, ptr Bn] w1 fun r w' => (∃ v, r = .returned v) ∧ (∃ es1, Dsk w' B p m { x with es := es1 } ∧ ab es1 = fs1) ∧ Kee w1 w' ∧ Below B w1 w') :
    Calls Tryz.prog 27 #[ptr p, .agg #[.bool true, kv]] w fun r w' => r = .returned (.int .i64 0) ∧ (∃ ns, ns.Perm (fs1.map (·.1)) ∧ ns.Pairwise (fun a b => a ≤ b) ∧ ∃ es', ab es' = (stl ks ns fs1).1 ∧ Dsk w' B p m { x with on := true, und := .nilFunc, es := es' }) ∧ Kee w w' ∧ Below B w w' := by
  have HB0 : Hid (B ≤ w.heap.size) := (show B ≤ w.heap.size from Nat.le_trans h.lo.1 (Nat.le_of_lt h.va.lt))
  have b1 := (Below.refl w.heap.size w).alloc (Nat.le_refl _) (.cells #[.bool true, kv] 67)
  have HH := (show Hid _ from h)
  have hup : x.und = .func (.func 113) #[] #[.pointer (some ⟨Bf, 0, none⟩), .pointer (some ⟨Bn, 0, none⟩)] := hu
  have V := (h.step b1).va
  rw [hoff, hup] at V
  have y2 := V.cell 2 (v := .bool false) rfl
  have y5 := V.cell 5 (v := .func (.func 113) #[] #[.pointer (some ⟨Bf, 0, none⟩), .pointer (some ⟨Bn, 0, none⟩)]) rfl
  have FV := va_new w [.bool true, kv] 67
  have z0 := FV.cell 0 (v := .bool true) rfl
  have z1 := FV.cell 1 (v := kv) rfl
  obtain ⟨ka, kc, hkv, _⟩ := hk.form
  have HK : Hid (Bl w kv ks) := hk
  have HS : Hid (Safe w kv) := hks
  have HB1 := (show Hid _ from b1)
  have HFV := (show Hid _ from FV)
  have hff : ∀ w : World, (binOp .neq 1 (.func (.func 113) #[] #[.pointer (some ⟨Bf, 0, none⟩), .pointer (some ⟨Bn, 0, none⟩)]) .nilFunc).run Tryz.prog w = .ok (.bool true) w := fun _ => rfl
  have HC : Hid (Unit → ∀ w1, Below w.heap.size w w1 → Calls Tryz.prog 113 #[ptr Bf, ptr Bn] w1 fun r w' => (∃ v, r = .returned v) ∧ (∃ es1, Dsk w' B p m { x with es := es1 } ∧ ab es1 = fs1) ∧ Kee w1 w' ∧ Below B w1 w') := fun _ => hcl
  clear h hk hks b1 V FV hcl
  subst hkv
  have hp : (ptr p) = .pointer (some ⟨p, 0, none⟩) := rfl
  rw [hp]
  go_enter Tryz.func27, Tryz.ntmps27
  go_wp2_with (go_at_call 113; refine (HC.out () _ HB1.out).mono ?_; rintro r w2 ⟨⟨v, rfl⟩, ⟨es1, hD2, hab1⟩, hk2, hb2⟩)
  have HA1 := (show Hid _ from hab1)
  have HK2 := (show Hid _ from (Kee.bel HB1.out).trans hk2)
  have HL2 := (show Hid _ from (HB1.out.mono HB0.out).trans hb2)
  have w5 := hD2.va.cell 5 (v := x.und) rfl
  have g5 := hD2.va.free 5
  have s5 := run_store Tryz.prog w2 ⟨p, 5, none⟩ .nilFunc .plain rfl
  simp only [w5, g5, Bool.false_eq_true, if_false] at s5
  have V2 := hD2.va
  rw [show DK.on { x with es := es1 } = false from hoff] at V2
  have h3 := hdr_of hD2 (upd_set w2 p 5 .nilFunc) x.ops x.left false .nilFunc (V2.set 5 _)
  have k3 := HK2.out.trans h3.2.1
  have FV3 := HFV.out.kee (hk2.trans h3.2.1) (by unfold Dt; decide)
  have z3 := FV3.cell 1 (v := .slice ka ks.length kc) rfl
  have HD3 := (show Hid _ from h3.1)
  have HS3 : Hid (Safe (w2.setCell ⟨p, 5, none⟩ .nilFunc) (.slice ka ks.length kc)) := HS.out.kee k3
  have HK3 : Hid (Bl (w2.setCell ⟨p, 5, none⟩ .nilFunc) (.slice ka ks.length kc) ks) := HK.out.kee HS.out k3
  have HE3 := (show Hid _ from k3)
  have HL3 := (show Hid _ from HL2.out.trans h3.2.2)
  clear hab1 hk2 hb2 hD2 V2 h3 k3 FV3 w5 g5
  go_wp2_with (go_at_call 57; refine (settle_ok _ B p m _ HD3.out _ ks HK3.out hkl HS3.out).mono ?_; rintro r w4 ⟨⟨v, rfl⟩, ⟨ns, hpm, hsr, es', hab, hD⟩, hk4, hb4⟩; have y3 := hD.va.cell 2 (v := .bool false) rfl; have f3 := hD.va.free 2; have HD4 := (show Hid _ from hD); clear hD)
  go_ret
  have h5 := hdr_of HD4.out (upd_set w4 p 2 (.bool true)) x.ops x.left true .nilFunc (HD4.out.va.set 2 _)
  have hpm' : ns.Perm (es1.map (·.nm)) := hpm
  have hab' : ab es' = (stl ks ns (ab es1)).1 := hab
  rw [names_ab, HA1.out] at hpm'
  rw [HA1.out] at hab'
  exact ⟨rfl, ⟨ns, hpm', hsr, es', hab', h5.1⟩, (HE3.out.trans hk4).trans h5.2.1, (HL3.out.trans hb4).trans h5.2.2⟩
set_option maxRecDepth 100000 in
theorem restart_rem (w : World) (B p m : Nat) (x : DK) (h : Dsk w B p m x) (kv : Value) (ks : List Bool) (hk : Bl w kv ks) (hkl : ks.length ≤ 140737488355328) (hks : Safe w kv) (hoff : x.on = false) (Bd Ba : Nat) (hu : x.und = .func (.func 79) #[] #[ptr Bd, ptr Ba]) (fs1 : FS)
    (hcl : ∀ w1, Below w.heap.size w w1 → Calls Tryz.prog 79 #[ptr Bd, ptr Ba] w1 fun r w' => (∃ v, r = .returned v) ∧ (∃ es1, Dsk w' B p m { x with es := es1 } ∧ ab es1 = fs1) ∧ Kee w1 w' ∧ Below B w1 w') :
    Calls Tryz.prog 27 #[ptr p, .agg #[.bool true, kv]] w fun r w' => r = .returned (.int .i64 0) ∧ (∃ ns, ns.Perm (fs1.map (·.1)) ∧ ns.Pairwise (fun a b => a ≤ b) ∧ ∃ es', ab es' = (stl ks ns fs1).1 ∧ Dsk w' B p m { x with on := true, und := .nilFunc, es := es' }) ∧ Kee w w' ∧ Below B w w' := by
  have HB0 : Hid (B ≤ w.heap.size) := (show B ≤ w.heap.size from Nat.le_trans h.lo.1 (Nat.le_of_lt h.va.lt))
  have b1 := (Below.refl w.heap.size w).alloc (Nat.le_refl _) (.cells #[.bool true, kv] 67)
  have HH := (show Hid _ from h)
  have hup : x.und = .func (.func 79) #[] #[.pointer (some ⟨Bd, 0, none⟩), .pointer (some ⟨Ba, 0, none⟩)] := hu
  have V := (h.step b1).va
  rw [hoff, hup] at V
  have y2 := V.cell 2 (v := .bool false) rfl
  have y5 := V.cell 5 (v := .func (.func 79) #[] #[.pointer (some ⟨Bd, 0, none⟩), .pointer (some ⟨Ba, 0, none⟩)]) rfl
  have FV := va_new w [.bool true, kv] 67
  have z0 := FV.cell 0 (v := .bool true) rfl
  have z1 := FV.cell 1 (v := kv) rfl
  obtain ⟨ka, kc, hkv, _⟩ := hk.form
  have HK : Hid (Bl w kv ks) := hk
  have HS : Hid (Safe w kv) := hks
  have HB1 := (show Hid _ from b1)
  have HFV := (show Hid _ from FV)
  have hff : ∀ w : World, (binOp .neq 1 (.func (.func 79) #[] #[.pointer (some ⟨Bd, 0, none⟩), .pointer (some ⟨Ba, 0, none⟩)]) .nilFunc).run Tryz.prog w = .ok (.bool true) w := fun _ => rfl
  have HC : Hid (Unit → ∀ w1, Below w.heap.size w w1 → Calls Tryz.prog 79 #[ptr Bd, ptr Ba] w1 fun r w' => (∃ v, r = .returned v) ∧ (∃ es1, Dsk w' B p m { x with es := es1 } ∧ ab es1 = fs1) ∧ Kee w1 w' ∧ Below B w1 w') := fun _ => hcl
  clear h hk hks b1 V FV hcl
  subst hkv
  have hp : (ptr p) = .pointer (some ⟨p, 0, none⟩) := rfl
  rw [hp]
  go_enter Tryz.func27, Tryz.ntmps27
  go_wp2_with (go_at_call 79; refine (HC.out () _ HB1.out).mono ?_; rintro r w2 ⟨⟨v, rfl⟩, ⟨es1, hD2, hab1⟩, hk2, hb2⟩)
  have HA1 := (show Hid _ from hab1)
  have HK2 := (show Hid _ from (Kee.bel HB1.out).trans hk2)
  have HL2 := (show Hid _ from (HB1.out.mono HB0.out).trans hb2)
  have w5 := hD2.va.cell 5 (v := x.und) rfl
  have g5 := hD2.va.free 5
  have s5 := run_store Tryz.prog w2 ⟨p, 5, none⟩ .nilFunc .plain rfl
  simp only [w5, g5, Bool.false_eq_true, if_false] at s5
  have V2 := hD2.va
  rw [show DK.on { x with es := es1 } = false from hoff] at V2
  have h3 := hdr_of hD2 (upd_set w2 p 5 .nilFunc) x.ops x.left false .nilFunc (V2.set 5 _)
  have k3 := HK2.out.trans h3.2.1
  have FV3 := HFV.out.kee (hk2.trans h3.2.1) (by unfold Dt; decide)
  have z3 := FV3.cell 1 (v := .slice ka ks.length kc) rfl
  have HD3 := (show Hid _ from h3.1)
  have HS3 : Hid (Safe (w2.setCell ⟨p, 5, none⟩ .nilFunc) (.slice ka ks.length kc)) := HS.out.kee k3
  have HK3 : Hid (Bl (w2.setCell ⟨p, 5, none⟩ .nilFunc) (.slice ka ks.length kc) ks) := HK.out.kee HS.out k3
  have HE3 := (show Hid _ from k3)
  have HL3 := (show Hid _ from HL2.out.trans h3.2.2)
  clear hab1 hk2 hb2 hD2 V2 h3 k3 FV3 w5 g5
  go_wp2_with (go_at_call 57; refine (settle_ok _ B p m _ HD3.out _ ks HK3.out hkl HS3.out).mono ?_; rintro r w4 ⟨⟨v, rfl⟩, ⟨ns, hpm, hsr, es', hab, hD⟩, hk4, hb4⟩; have y3 := hD.va.cell 2 (v := .bool false) rfl; have f3 := hD.va.free 2; have HD4 := (show Hid _ from hD); clear hD)
  go_ret
  have h5 := hdr_of HD4.out (upd_set w4 p 2 (.bool true)) x.ops x.left true .nilFunc (HD4.out.va.set 2 _)
  have hpm' : ns.Perm (es1.map (·.nm)) := hpm
  have hab' : ab es' = (stl ks ns (ab es1)).1 := hab
  rw [names_ab, HA1.out] at hpm'
  rw [HA1.out] at hab'
  exact ⟨rfl, ⟨ns, hpm', hsr, es', hab', h5.1⟩, (HE3.out.trans hk4).trans h5.2.1, (HL3.out.trans hb4).trans h5.2.2⟩
/-- the files when the power comes again, ahead of what is lost -/
def doUnd (x : AD) (dn : Bool) : FS := if dn then (match x.und with | none => x.fs | some o => doOp o x.fs) else x.fs
theorem restart_off (w : World) (B p m : Nat) (x : AD) (h : DA w B p m x) (dn : Bool) (kv : Value) (ks : List Bool) (hk : Bl w kv ks) (hkl : ks.length ≤ 140737488355328) (hks : Safe w kv) (hoff : x.on = false) :
    Calls Tryz.prog 27 #[ptr p, .agg #[.bool dn, kv]] w fun r w' => r = .returned (.int .i64 0) ∧ ∃ ns, ns.Perm ((doUnd x dn).map (·.1)) ∧ ns.Pairwise (fun a b => a ≤ b) ∧ Lv w w' B p m { x with on := true, und := none, fs := (stl ks ns (doUnd x dn)).1 } := by
  obtain ⟨es, u0, hD, hab, hu, hun⟩ := h
  have hfin : ∀ (r : Ending) (w' : World) (fs1 : FS), fs1 = doUnd x dn → r = .returned (.int .i64 0) → (∃ ns, ns.Perm (fs1.map (·.1)) ∧ ns.Pairwise (fun a b => a ≤ b) ∧ ∃ es', ab es' = (stl ks ns fs1).1 ∧ Dsk w' B p m ⟨x.room, x.ops, x.left, true, .nilFunc, es'⟩) → Kee w w' → Below B w w' →
      r = .returned (.int .i64 0) ∧ ∃ ns, ns.Perm ((doUnd x dn).map (·.1)) ∧ ns.Pairwise (fun a b => a ≤ b) ∧ Lv w w' B p m { x with on := true, und := none, fs := (stl ks ns (doUnd x dn)).1 } := by
    rintro r w' fs1 rfl hr ⟨ns, h1, h2, es', h3, h4⟩ h5 h6
    exact ⟨hr, ns, h1, h2, ⟨es', .nilFunc, h4, h3, rfl, fun _ => rfl⟩, h5, h6⟩
  cases dn with
  | false =>
    refine (restart_not w B p m _ hD kv ks hk hkl hks hoff).mono ?_
    rintro r w' ⟨hr, ⟨ns, h1, h2, es', h3, h4⟩, h5, h6⟩
    have h1' : ns.Perm (es.map (·.nm)) := h1
    have h3' : ab es' = (stl ks ns (ab es)).1 := h3
    rw [names_ab, hab] at h1'
    rw [hab] at h3'
    exact hfin r w' x.fs rfl hr ⟨ns, h1', h2, es', h3', h4⟩ h5 h6
  | true =>
    cases hq : x.und with
    | none =>
      have hu0 : u0 = .nilFunc := by rw [hq] at hu; exact hu
      subst hu0
      refine (restart_ok w B p m _ hD true kv ks hk hkl hks hoff rfl).mono ?_
      rintro r w' ⟨hr, ⟨ns, h1, h2, es', h3, h4⟩, h5, h6⟩
      have h1' : ns.Perm (es.map (·.nm)) := h1
      have h3' : ab es' = (stl ks ns (ab es)).1 := h3
      rw [names_ab, hab] at h1'
      rw [hab] at h3'
      exact hfin r w' x.fs (by unfold doUnd; rw [hq]; rfl) hr ⟨ns, h1', h2, es', h3', h4⟩ h5 h6
    | some q =>
      rw [hq] at hu
      have hdo : doOp q x.fs = doUnd x true := by unfold doUnd; rw [hq]; rfl
      obtain ⟨k, a, b, n⟩ := q
      rcases hu with ⟨hk1, Bf, f, hf, hu, h4⟩ | ⟨hk1, hn, Bf, Bn, f, hf, hu, h4, h5⟩ | ⟨hk1, hn, Bd, Ba, Bf, Bb, f, hf, hu, h4, h5, h6, h7⟩ | ⟨hk1, Bd, Ba, f, hf, hu, h4, h5⟩
      · have hk1' : k = 1 := hk1
        subst hk1'
        have hf' : fd es a = some f := hf
        obtain ⟨l1, l2, hx, hnm, hl1⟩ := fd_split hf'
        refine (restart_sync w B p m _ hD kv ks hk hkl hks hoff Bf hu (doOp ⟨1, a, b, n⟩ x.fs) (fun w1 b1 => ?_)).mono (fun r w' ⟨hr, h1, h2, h3⟩ => hfin r w' _ hdo hr h1 h2 h3)
        have hfl := (hD.step b1).fil f (fd_mem hf').1
        refine (sync1_ok w1 B Bf f hfl (h4.kee (Kee.bel b1) (by unfold Dt; decide)) (hD.flen hx)).mono ?_
        rintro r w' ⟨hr, hc⟩
        obtain ⟨es1, hD1, hab1⟩ := (hD.step b1).chf hx hc (Nat.le_refl _)
        refine ⟨hr, ⟨es1, hD1, ?_⟩, hc.kee hfl, hc.bel hfl (Nat.le_trans hD.lo.1 (Nat.le_trans (Nat.le_of_lt hD.va.lt) b1.size))⟩
        rw [hab1]
        show upd1 (ab es) f.nm f.ss f.ss.length = _
        rw [upd1_sync hD.ap hf' b n, hab]
      · have hk1' : k = 2 := hk1
        subst hk1'
        have hf' : fd es a = some f := hf
        obtain ⟨l1, l2, hx, hnm, hl1⟩ := fd_split hf'
        refine (restart_trunc w B p m _ hD kv ks hk hkl hks hoff Bf Bn hu (doOp ⟨2, a, b, n⟩ x.fs) (fun w1 b1 => ?_)).mono (fun r w' ⟨hr, h1, h2, h3⟩ => hfin r w' _ hdo hr h1 h2 h3)
        have hfl := (hD.step b1).fil f (fd_mem hf').1
        have hBl : B ≤ w1.heap.size := Nat.le_trans hD.lo.1 (Nat.le_trans (Nat.le_of_lt hD.va.lt) b1.size)
        refine (trunc1_ok w1 B Bf Bn f hfl (h4.kee (Kee.bel b1) (by unfold Dt; decide)) n hn (h5.kee (Kee.bel b1) (by unfold Dt; decide)) (hD.flen hx) hBl).mono ?_
        rintro r w' ⟨hr, hc⟩
        obtain ⟨es1, hD1, hab1⟩ := (hD.step b1).chf hx hc (by rw [List.length_take]; omega)
        refine ⟨hr, ⟨es1, hD1, ?_⟩, hc.kee hfl, hc.bel hfl hBl⟩
        rw [hab1]
        show upd1 (ab es) f.nm (f.ss.take n) (min n f.ss.length) = _
        rw [upd1_trunc hD.ap hf' b n, hab]
      · have hk1' : k = 4 := hk1
        subst hk1'
        have hf' : fd es a = some f := hf
        have ha16 : a.length ≤ 16 := by
          have := (hD.fil f (fd_mem hf').1).nm
          rw [(fd_mem hf').2] at this
          exact this
        refine (restart_rem w B p m _ hD kv ks hk hkl hks hoff Bd Ba hu (doOp ⟨4, a, b, n⟩ x.fs) (fun w1 b1 => ?_)).mono (fun r w' ⟨hr, h1, h2, h3⟩ => hfin r w' _ hdo hr h1 h2 h3)
        refine (rem1_ok w1 B p m _ (hD.step b1) Bd Ba ⟨a.toArray⟩ (by show a.toArray.size ≤ 16; simpa using ha16) (h4.kee (Kee.bel b1) (by unfold Dt; decide)) (h5.kee (Kee.bel b1) (by unfold Dt; decide))).mono ?_
        rintro r w' ⟨hr, hD1, hk', hb'⟩
        refine ⟨hr, ⟨_, hD1, ?_⟩, hk', hb'⟩
        rw [← hab, ← ab_rem es a b n]
end Go.Proofs.YtkmdegmpffgplaaGreatDoor
