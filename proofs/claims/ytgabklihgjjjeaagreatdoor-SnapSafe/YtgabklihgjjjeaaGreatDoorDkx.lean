/- disk XXIII: Sync, Truncate, whatever comes. -/
import Derived.Test.YtgabklihgjjjeaaGreatDoorDkw
namespace Go.Proofs.YtgabklihgjjjeaaGreatDoor
open Go.RowKit Go.Maps Go.Sort Go.Shelf pk
set_option linter.unusedVariables false

theorem upd1_sync {es : List Ent} (hp : es.Pairwise Apart) {e : Ent} {l : List UInt8} (hf : fd es l = some e) (b : List UInt8) (n : Nat) : upd1 (ab es) e.nm e.ss e.ss.length = doOp ⟨1, l, b, n⟩ (ab es) := by
  obtain ⟨he, rfl⟩ := fd_mem hf
  show (ab es).map _ = (ab es).map _
  refine List.map_congr_left (fun t ht => ?_)
  by_cases h : t.1 = e.nm
  · obtain ⟨a, ha, rfl⟩ := List.mem_map.1 ht
    have h2 : fd es a.nm = some a := fd_of hp ha
    have h3 : a.nm = e.nm := h
    rw [h3, hf] at h2
    cases h2
    simp
  · simp [h]
theorem upd1_trunc {es : List Ent} (hp : es.Pairwise Apart) {e : Ent} {l : List UInt8} (hf : fd es l = some e) (b : List UInt8) (n : Nat) : upd1 (ab es) e.nm (e.ss.take n) (min n e.ss.length) = doOp ⟨2, l, b, n⟩ (ab es) := by
  obtain ⟨he, rfl⟩ := fd_mem hf
  show (ab es).map _ = (ab es).map _
  refine List.map_congr_left (fun t ht => ?_)
  by_cases h : t.1 = e.nm
  · obtain ⟨a, ha, rfl⟩ := List.mem_map.1 ht
    have h2 : fd es a.nm = some a := fd_of hp ha
    have h3 : a.nm = e.nm := h
    rw [h3, hf] at h2
    cases h2
    simp
  · simp [h]
theorem oper_bad {x : AD} {o : POp} (h : isNm o.a = false) : oper x o = (1, x) := by unfold oper; simp [h]
theorem oper_none {x : AD} {o : POp} (h : isNm o.a = true) (hb : o.k = 3 → isNm o.b = true) (hf : lk x.fs o.a = none) : oper x o = (7, x) := by
  unfold oper
  rw [if_neg (by by_cases h3 : o.k = 3 <;> simp [h, h3, hb]), if_pos (by rw [hf]; rfl)]
theorem oper_off {x : AD} {o : POp} (h : isNm o.a = true) (hb : o.k = 3 → isNm o.b = true) (hf : (lk x.fs o.a).isSome = true) (hon : x.on = false) : oper x o = (18, x) := by
  unfold oper
  rw [if_neg (by by_cases h3 : o.k = 3 <;> simp [h, h3, hb]), if_neg (by cases hh : lk x.fs o.a <;> simp [hh] at hf ⊢), if_pos hon]
theorem oper_on {x : AD} {o : POp} (h : isNm o.a = true) (hb : o.k = 3 → isNm o.b = true) (hf : (lk x.fs o.a).isSome = true) (hon : x.on = true) : oper x o = if (begA x).on then (0, { begA x with fs := doOp o x.fs }) else (18, { begA x with und := some o }) := by
  unfold oper
  rw [if_neg (by by_cases h3 : o.k = 3 <;> simp [h, h3, hb]), if_neg (by cases hh : lk x.fs o.a <;> simp [hh] at hf ⊢), if_neg (by simp [hon])]
theorem sync_any (w : World) (B p m : Nat) (x : AD) (h : DA w B p m x) (s : ByteArray) (hs : s.size ≤ 9223372036854775807) (ho : x.ops ≤ 4611686018427387904) (hlf : x.left ≤ 9223372036854775807) :
    Calls Tryz.prog 48 #[ptr p, .string s] w fun r w' => r = .returned (.int .i64 ((oper x ⟨1, s.data.toList, [], 0⟩).1 : Nat)) ∧ Lv w w' B p m (oper x ⟨1, s.data.toList, [], 0⟩).2 := by
  have HDA : Hid (DA w B p m x) := h
  have HLT : Hid (B ≤ w.heap.size) := h.lt
  obtain ⟨es, u, hD, hab, hu, hun⟩ := h
  have HD := (show Hid _ from hD)
  have hp : (ptr p) = .pointer (some ⟨p, 0, none⟩) := rfl
  cases hn : isNm s.data.toList with
  | false =>
    rw [oper_bad (show isNm (POp.mk 1 s.data.toList [] 0).a = false from hn)]
    clear hD
    go_enter Tryz.func48, Tryz.ntmps48
    go_wp2_with (go_at_call 37; refine (find_bad' _ _ s hs hn).mono ?_; rintro e w1 ⟨rfl, rfl⟩)
    go_ret
    exact ⟨rfl, Lv.step HDA.out ((Below.refl _ _).alloc (Nat.le_refl _) _)⟩
  | true =>
    have hs6 := nm_size hn
    cases hf : fd es s.data.toList with
    | none =>
      rw [oper_none (o := ⟨1, s.data.toList, [], 0⟩) hn (by simp) (by rw [← hab, lk_ab]; show (fd es s.data.toList).map _ = none; rw [hf]; rfl)]
      clear hD
      go_enter Tryz.func48, Tryz.ntmps48
      go_wp2_with (go_at_call 37; refine (find_none _ B p m _ HD.out s (by omega) hn hf).mono ?_; rintro e w1 ⟨rfl, rfl⟩)
      go_ret
      exact ⟨rfl, Lv.step HDA.out ((Below.refl _ _).alloc (Nat.le_refl _) _)⟩
    | some f =>
      have hsome : (lk x.fs (POp.mk 1 s.data.toList [] 0).a).isSome = true := by rw [← hab, lk_ab]; show ((fd es s.data.toList).map _).isSome = true; rw [hf]; rfl
      cases hon : x.on with
      | false =>
        rw [oper_off (o := ⟨1, s.data.toList, [], 0⟩) hn (by simp) hsome hon]
        clear hD
        go_enter Tryz.func48, Tryz.ntmps48
        go_wp2_with (go_at_call 37; refine (find_some _ B p m _ HD.out s (by omega) hn f hf).mono ?_; rintro e w1 ⟨rfl, rfl⟩; unfold ptr)
        refine (perf_down _ B p m _ (HD.out.step ((Below.refl _ _).alloc (Nat.le_refl _) _)) hon _ _).mono ?_
        rintro e w2 ⟨rfl, rfl⟩
        go_wp2
        go_ret
        exact ⟨rfl, Lv.step HDA.out ((Below.refl _ _).alloc (Nat.le_refl _) _)⟩
      | true =>
        rw [oper_on (o := ⟨1, s.data.toList, [], 0⟩) hn (by simp) hsome hon]
        obtain ⟨l1, l2, hx, hnm, hl1⟩ := fd_split hf
        have hu0 : u = .nilFunc := by rw [hun hon] at hu; exact hu
        have hlen := HD.out.flen hx
        clear hD
        have V1 := va_new w [ptr f.q] 76
        have b1 := (Below.refl w.heap.size w).alloc (Nat.le_refl _) (.cells #[ptr f.q] 76)
        have HV1 := (show Hid _ from V1)
        have HB1 := (show Hid _ from b1)
        clear V1 b1
        by_cases hst : (begA x).on = true
        · rw [if_pos hst]
          have HR : Hid (∀ w3, Hdr (w.alloc (.cells #[ptr f.q] 76)) w3 B p m (beg ⟨x.room, x.ops, x.left, x.on, u, es⟩) → Calls Tryz.prog 73 #[ptr w.heap.size] w3 fun r w' => (∃ v, r = .returned v) ∧ Lv w w' B p m { begA x with fs := doOp ⟨1, s.data.toList, [], 0⟩ x.fs }) := fun w3 h3 => by
            refine (sync1_ok w3 B w.heap.size f (h3.1.fil f (fd_mem hf).1) (HV1.out.kee h3.2.1 (by unfold Dt; decide)) hlen).mono ?_
            rintro r w' ⟨hr, hc⟩
            have hfl := h3.1.fil f (fd_mem hf).1
            obtain ⟨es', hD', hab'⟩ := h3.1.chf hx hc (Nat.le_refl _)
            refine ⟨hr, ⟨es', u, hD', ?_, ?_, fun _ => hun hon⟩, ((Kee.bel HB1.out).trans h3.2.1).trans (hc.kee hfl), ((HB1.out.mono HLT.out).trans h3.2.2).trans (hc.bel hfl (Nat.le_trans h3.1.lo.1 (Nat.le_of_lt h3.1.va.lt)))⟩
            · rw [hab']
              show upd1 (ab es) f.nm f.ss f.ss.length = _
              rw [upd1_sync HD.out.ap hf [] 0, hab]
            · show Und w' p es' x.und u
              rw [hun hon]
              exact hu0
          go_enter Tryz.func48, Tryz.ntmps48
          go_wp2_with (go_at_call 37; refine (find_some _ B p m _ HD.out s (by omega) hn f hf).mono ?_; rintro e w1 ⟨rfl, rfl⟩; unfold ptr)
          refine (perf_sync _ B p m _ (HD.out.step HB1.out) hon ho hlf _ hst _ HR.out).mono ?_
          rintro e w2 ⟨rfl, h2⟩
          go_wp2
          go_ret
          exact ⟨rfl, h2⟩
        · rw [if_neg hst]
          have hst : (begA x).on = false := by simpa using hst
          go_enter Tryz.func48, Tryz.ntmps48
          go_wp2_with (go_at_call 37; refine (find_some _ B p m _ HD.out s (by omega) hn f hf).mono ?_; rintro e w1 ⟨rfl, rfl⟩; unfold ptr)
          refine (perf_sync_off _ B p m _ (HD.out.step HB1.out) hon ho hlf _ hst).mono ?_
          rintro e w2 ⟨rfl, h2⟩
          go_wp2
          go_ret
          refine ⟨rfl, ⟨es, _, h2.1, hab, .inl ⟨rfl, _, f, hf, rfl, HV1.out.kee h2.2.1 (by unfold Dt; decide)⟩, fun e => ?_⟩, (Kee.bel HB1.out).trans h2.2.1, (HB1.out.mono HLT.out).trans h2.2.2⟩
          have e' : (begA x).on = true := e
          rw [hst] at e'
          cases e'
end Go.Proofs.YtgabklihgjjjeaaGreatDoor
