/- disk XXII: the disk in plain words; what is left undone; Sync, Truncate, whatever comes. -/
import Derived.Test.YtkmdegmpffgplaaGreatDoorLal
namespace Go.Proofs.YtkmdegmpffgplaaGreatDoor
open Go.RowKit Go.Maps Go.Sort Go.Shelf pk
set_option linter.unusedVariables false

/-- an operation: 1 Sync, 2 Truncate, 3 Rename, 4 Remove -/
structure POp where
  k : Nat
  a : List UInt8
  b : List UInt8
  n : Nat
/-- the file of that name -/
def lk (fs : FS) (l : List UInt8) : Option (List UInt8 × List (List Nat) × Nat) := fs.find? (fun t => t.1 == l)
/-- an operation is done -/
def doOp (o : POp) (fs : FS) : FS :=
  if o.k = 1 then fs.map (fun t => if t.1 = o.a then (t.1, t.2.1, t.2.1.length) else t)
  else if o.k = 2 then fs.map (fun t => if t.1 = o.a then (t.1, t.2.1.take o.n, min o.n t.2.1.length) else t)
  else if o.k = 3 then (match lk fs o.a with
    | none => fs
    | some t => fs.filter (fun u => decide (u.1 ≠ o.a ∧ u.1 ≠ o.b)) ++ [(o.b, t.2.1, t.2.2)])
  else fs.filter (fun t => decide (t.1 ≠ o.a))
/-- a disk in plain words -/
structure AD where
  room : Nat
  ops : Nat
  left : Nat
  on : Bool
  und : Option POp
  fs : FS
/-- the closure of what was left undone -/
def Und (w : World) (p : Nat) (es : List Ent) (o : Option POp) (u : Value) : Prop :=
  match o with
  | none => u = .nilFunc
  | some q =>
    (q.k = 1 ∧ ∃ Bf e, fd es q.a = some e ∧ u = .func (.func 91) #[] #[ptr Bf] ∧ VA w Bf [ptr e.q] 110)
    ∨ (q.k = 2 ∧ q.n ≤ 9223372036854775807 ∧ ∃ Bf Bn e, fd es q.a = some e ∧ u = .func (.func 113) #[] #[ptr Bf, ptr Bn] ∧ VA w Bf [ptr e.q] 110 ∧ VA w Bn [.int .i64 (q.n : Int)] 3)
    ∨ (q.k = 3 ∧ False)
    ∨ (q.k = 4 ∧ ∃ Bd Ba e, fd es q.a = some e ∧ u = .func (.func 79) #[] #[ptr Bd, ptr Ba] ∧ VA w Bd [ptr p] 41 ∧ VA w Ba [.string ⟨q.a.toArray⟩] 9)
theorem Und.kee {w w' : World} {p : Nat} {es : List Ent} {o : Option POp} {u : Value} (h : Und w p es o u) (k : Kee w w') : Und w' p es o u := by
  cases o with
  | none => exact h
  | some q =>
    rcases h with ⟨h1, Bf, e, h2, h3, h4⟩ | ⟨h1, hn, Bf, Bn, e, h2, h3, h4, h5⟩ | ⟨h1, hn, Bd, Ba, Bf, Bb, e, h2, h3, h4, h5, h6, h7⟩ | ⟨h1, Bd, Ba, e, h2, h3, h4, h5⟩
    · exact .inl ⟨h1, Bf, e, h2, h3, h4.kee k (by unfold Dt; decide)⟩
    · exact .inr (.inl ⟨h1, hn, Bf, Bn, e, h2, h3, h4.kee k (by unfold Dt; decide), h5.kee k (by unfold Dt; decide)⟩)
    · exact .inr (.inr (.inr ⟨h1, Bd, Ba, e, h2, h3, h4.kee k (by unfold Dt; decide), h5.kee k (by unfold Dt; decide)⟩))
/-- the disk in memory is that one -/
def DA (w : World) (B p m : Nat) (x : AD) : Prop := ∃ es u, Dsk w B p m ⟨x.room, x.ops, x.left, x.on, u, es⟩ ∧ ab es = x.fs ∧ Und w p es x.und u ∧ (x.on = true → x.und = none)
theorem DA.step {w w' : World} {B p m : Nat} {x : AD} (h : DA w B p m x) (k : Below w.heap.size w w') : DA w' B p m x := by
  obtain ⟨es, u, h1, h2, h3, h4⟩ := h
  exact ⟨es, u, h1.step k, h2, h3.kee (Kee.bel k), h4⟩
theorem DA.lt {w : World} {B p m : Nat} {x : AD} (h : DA w B p m x) : B ≤ w.heap.size := by
  obtain ⟨es, u, h1, _⟩ := h
  exact Nat.le_trans h1.lo.1 (Nat.le_of_lt h1.va.lt)
def begA (x : AD) : AD := { x with ops := x.ops + 1, left := x.left - 1, on := decide (x.left ≠ 1) }
/-- what an operation answers, and leaves -/
def oper (x : AD) (o : POp) : Nat × AD :=
  if (isNm o.a && (decide (o.k ≠ 3) || isNm o.b)) = false then (1, x)
  else if (lk x.fs o.a).isNone then (7, x)
  else if x.on = false then (18, x)
  else if (begA x).on then (0, { begA x with fs := doOp o x.fs }) else (18, { begA x with und := some o })
/-- what a call leaves -/
def Lv (w w' : World) (B p m : Nat) (x' : AD) : Prop := DA w' B p m x' ∧ Kee w w' ∧ Below B w w'
theorem Lv.same {w : World} {B p m : Nat} {x : AD} (h : DA w B p m x) : Lv w w B p m x := ⟨h, Kee.refl w, Below.refl _ _⟩
theorem Lv.step {w w' : World} {B p m : Nat} {x : AD} (h : DA w B p m x) (k : Below w.heap.size w w') : Lv w w' B p m x := ⟨h.step k, Kee.bel k, k.mono h.lt⟩
theorem lk_ab (es : List Ent) (l : List UInt8) : lk (ab es) l = (fd es l).map fun e => (e.nm, e.ss, e.sy) := find_ab' es l
theorem nm_size {s : ByteArray} (h : isNm s.data.toList = true) : s.size ≤ 16 := by
  unfold isNm at h
  simp only [Bool.and_eq_true, decide_eq_true_eq] at h
  have h2 := h.1.2
  have hl : s.data.toList.length = s.size := by cases s; rfl
  omega
theorem perf_down (w : World) (B p m : Nat) (x : DK) (h : Dsk w B p m x) (hon : x.on = false) (g : Nat) (bs : Array Value) :
    Calls Tryz.prog 78 #[ptr p, .func (.func g) #[] bs] w fun r w' => r = .returned (.int .i64 18) ∧ w' = w := by
  have y := h.va.cell 2 (v := .bool x.on) rfl
  rw [hon] at y
  clear h
  have hp : (ptr p) = .pointer (some ⟨p, 0, none⟩) := rfl
  rw [hp]
  go_enter Tryz.func78, Tryz.ntmps78
  go_wp2
  go_ret
  exact ⟨rfl, rfl⟩
theorem find_bad' (w : World) (v : Value) (s : ByteArray) (hs : s.size ≤ 9223372036854775807) (hn : isNm s.data.toList = false) :
    Calls Tryz.prog 55 #[v, .string s] w fun e w' => e = .returned (.tuple #[.pointer none, .int .i64 1]) ∧ w' = w := by
  have HC := (show Hid _ from fun w => isName_ok s w hs)
  go_enter Tryz.func55, Tryz.ntmps55
  go_wp2_with (go_at_call 51; refine (HC.out _).mono ?_; rintro e w' ⟨rfl, rfl⟩; rw [hn])
  refine bodyPost_ret (v := .tuple #[.pointer none, .int .i64 1]) (by simp [results, Tryz.results55, go_sem]) rfl ?_
  exact ⟨rfl, rfl⟩
/-- find, whatever comes -/
theorem find_any (w : World) (B p m : Nat) (x : DK) (h : Dsk w B p m x) (s : ByteArray) (hs : s.size ≤ 9223372036854775807) :
    Calls Tryz.prog 55 #[ptr p, .string s] w fun e w' => (e = .returned (.tuple #[match (if isNm s.data.toList then fd x.es s.data.toList else none) with | some f => ptr f.q | none => .pointer none, .int .i64 ((if isNm s.data.toList = false then 1 else if (fd x.es s.data.toList).isNone then 7 else 0 : Nat) : Int)])) ∧ w' = w := by
  cases hn : isNm s.data.toList with
  | false =>
    refine (find_bad' w (ptr p) s hs hn).mono ?_
    rintro e w' ⟨rfl, rfl⟩
    exact ⟨rfl, rfl⟩
  | true =>
    have := nm_size hn
    cases hf : fd x.es s.data.toList with
    | none =>
      refine (find_none w B p m x h s (by omega) hn hf).mono ?_
      rintro e w' ⟨rfl, rfl⟩
      exact ⟨rfl, rfl⟩
    | some f =>
      refine (find_some w B p m x h s (by omega) hn f hf).mono ?_
      rintro e w' ⟨rfl, rfl⟩
      exact ⟨rfl, rfl⟩
end Go.Proofs.YtkmdegmpffgplaaGreatDoor
/- disk XXIII: Sync, Truncate, whatever comes. -/
namespace Go.Proofs.YtkmdegmpffgplaaGreatDoor
open Go.RowKit Go.Maps Go.Sort Go.Shelf pk
set_option linter.unusedVariables false

theorem upd1_sync {es : List Ent} (hp : es.Pairwise Apart) {e : Ent} {l : List UInt8} (hf : fd es l = some e) (b : List UInt8) (n : Nat) : upd1 (ab es) e.nm e.ss e.ss.length = doOp ⟨1, l, b, n⟩ (ab es) := by
  obtain ⟨he, rfl⟩ := fd_mem hf
  show (ab es).map _ = (ab es).map _
  refine List.map_congr_left (fun t ht => ?_)
  by_cases h : t.1 = e.nm
  · obtain ⟨a, ha, rfl⟩ := List.mem_map.1 ht
    have h2 : fd es a.nm = some a := fd_of hp ha
    have h3 : a.nm = e.nm := h
    rw [h3, hf] at h2
    cases h2
    simp
  · simp [h]
theorem upd1_trunc {es : List Ent} (hp : es.Pairwise Apart) {e : Ent} {l : List UInt8} (hf : fd es l = some e) (b : List UInt8) (n : Nat) : upd1 (ab es) e.nm (e.ss.take n) (min n e.ss.length) = doOp ⟨2, l, b, n⟩ (ab es) := by
  obtain ⟨he, rfl⟩ := fd_mem hf
  show (ab es).map _ = (ab es).map _
  refine List.map_congr_left (fun t ht => ?_)
  by_cases h : t.1 = e.nm
  · obtain ⟨a, ha, rfl⟩ := List.mem_map.1 ht
    have h2 : fd es a.nm = some a := fd_of hp ha
    have h3 : a.nm = e.nm := h
    rw [h3, hf] at h2
    cases h2
    simp
  · simp [h]
theorem oper_bad {x : AD} {o : POp} (h : isNm o.a = false) : oper x o = (1, x) := by unfold oper; simp [h]
theorem oper_none {x : AD} {o : POp} (h : isNm o.a = true) (hb : o.k = 3 → isNm o.b = true) (hf : lk x.fs o.a = none) : oper x o = (7, x) := by
  unfold oper
  rw [if_neg (by by_cases h3 : o.k = 3 <;> simp [h, h3, hb]), if_pos (by rw [hf]; rfl)]
theorem oper_off {x : AD} {o : POp} (h : isNm o.a = true) (hb : o.k = 3 → isNm o.b = true) (hf : (lk x.fs o.a).isSome = true) (hon : x.on = false) : oper x o = (18, x) := by
  unfold oper
  rw [if_neg (by by_cases h3 : o.k = 3 <;> simp [h, h3, hb]), if_neg (by cases hh : lk x.fs o.a <;> simp [hh] at hf ⊢), if_pos hon]
theorem oper_on {x : AD} {o : POp} (h : isNm o.a = true) (hb : o.k = 3 → isNm o.b = true) (hf : (lk x.fs o.a).isSome = true) (hon : x.on = true) : oper x o = if (begA x).on then (0, { begA x with fs := doOp o x.fs }) else (18, { begA x with und := some o }) := by
  unfold oper
  rw [if_neg (by by_cases h3 : o.k = 3 <;> simp [h, h3, hb]), if_neg (by cases hh : lk x.fs o.a <;> simp [hh] at hf ⊢), if_neg (by simp [hon])]
theorem sync_any (w : World) (B p m : Nat) (x : AD) (h : DA w B p m x) (s : ByteArray) (hs : s.size ≤ 9223372036854775807) (ho : x.ops ≤ 4611686018427387904) (hlf : x.left ≤ 9223372036854775807) :
    Calls Tryz.prog 63 #[ptr p, .string s] w fun r w' => r = .returned (.int .i64 ((oper x ⟨1, s.data.toList, [], 0⟩).1 : Nat)) ∧ Lv w w' B p m (oper x ⟨1, s.data.toList, [], 0⟩).2 := by
  have HDA : Hid (DA w B p m x) := h
  have HLT : Hid (B ≤ w.heap.size) := h.lt
  obtain ⟨es, u, hD, hab, hu, hun⟩ := h
  have HD := (show Hid _ from hD)
  have hp : (ptr p) = .pointer (some ⟨p, 0, none⟩) := rfl
  cases hn : isNm s.data.toList with
  | false =>
    rw [oper_bad (show isNm (POp.mk 1 s.data.toList [] 0).a = false from hn)]
    clear hD
    go_enter Tryz.func63, Tryz.ntmps63
    go_wp2_with (go_at_call 55; refine (find_bad' _ _ s hs hn).mono ?_; rintro e w1 ⟨rfl, rfl⟩)
    go_ret
    exact ⟨rfl, Lv.step HDA.out ((Below.refl _ _).alloc (Nat.le_refl _) _)⟩
  | true =>
    have hs6 := nm_size hn
    cases hf : fd es s.data.toList with
    | none =>
      rw [oper_none (o := ⟨1, s.data.toList, [], 0⟩) hn (by simp) (by rw [← hab, lk_ab]; show (fd es s.data.toList).map _ = none; rw [hf]; rfl)]
      clear hD
      go_enter Tryz.func63, Tryz.ntmps63
      go_wp2_with (go_at_call 55; refine (find_none _ B p m _ HD.out s (by omega) hn hf).mono ?_; rintro e w1 ⟨rfl, rfl⟩)
      go_ret
      exact ⟨rfl, Lv.step HDA.out ((Below.refl _ _).alloc (Nat.le_refl _) _)⟩
    | some f =>
      have hsome : (lk x.fs (POp.mk 1 s.data.toList [] 0).a).isSome = true := by rw [← hab, lk_ab]; show ((fd es s.data.toList).map _).isSome = true; rw [hf]; rfl
      cases hon : x.on with
      | false =>
        rw [oper_off (o := ⟨1, s.data.toList, [], 0⟩) hn (by simp) hsome hon]
        clear hD
        go_enter Tryz.func63, Tryz.ntmps63
        go_wp2_with (go_at_call 55; refine (find_some _ B p m _ HD.out s (by omega) hn f hf).mono ?_; rintro e w1 ⟨rfl, rfl⟩; unfold ptr)
        refine (perf_down _ B p m _ (HD.out.step ((Below.refl _ _).alloc (Nat.le_refl _) _)) hon _ _).mono ?_
        rintro e w2 ⟨rfl, rfl⟩
        go_wp2
        go_ret
        exact ⟨rfl, Lv.step HDA.out ((Below.refl _ _).alloc (Nat.le_refl _) _)⟩
      | true =>
        rw [oper_on (o := ⟨1, s.data.toList, [], 0⟩) hn (by simp) hsome hon]
        obtain ⟨l1, l2, hx, hnm, hl1⟩ := fd_split hf
        have hu0 : u = .nilFunc := by rw [hun hon] at hu; exact hu
        have hlen := HD.out.flen hx
        clear hD
        have V1 := va_new w [ptr f.q] 110
        have b1 := (Below.refl w.heap.size w).alloc (Nat.le_refl _) (.cells #[ptr f.q] 110)
        have HV1 := (show Hid _ from V1)
        have HB1 := (show Hid _ from b1)
        clear V1 b1
        by_cases hst : (begA x).on = true
        · rw [if_pos hst]
          have HR : Hid (∀ w3, Hdr (w.alloc (.cells #[ptr f.q] 110)) w3 B p m (beg ⟨x.room, x.ops, x.left, x.on, u, es⟩) → Calls Tryz.prog 91 #[ptr w.heap.size] w3 fun r w' => (∃ v, r = .returned v) ∧ Lv w w' B p m { begA x with fs := doOp ⟨1, s.data.toList, [], 0⟩ x.fs }) := fun w3 h3 => by
            refine (sync1_ok w3 B w.heap.size f (h3.1.fil f (fd_mem hf).1) (HV1.out.kee h3.2.1 (by unfold Dt; decide)) hlen).mono ?_
            rintro r w' ⟨hr, hc⟩
            have hfl := h3.1.fil f (fd_mem hf).1
            obtain ⟨es', hD', hab'⟩ := h3.1.chf hx hc (Nat.le_refl _)
            refine ⟨hr, ⟨es', u, hD', ?_, ?_, fun _ => hun hon⟩, ((Kee.bel HB1.out).trans h3.2.1).trans (hc.kee hfl), ((HB1.out.mono HLT.out).trans h3.2.2).trans (hc.bel hfl (Nat.le_trans h3.1.lo.1 (Nat.le_of_lt h3.1.va.lt)))⟩
            · rw [hab']
              show upd1 (ab es) f.nm f.ss f.ss.length = _
              rw [upd1_sync HD.out.ap hf [] 0, hab]
            · show Und w' p es' x.und u
              rw [hun hon]
              exact hu0
          go_enter Tryz.func63, Tryz.ntmps63
          go_wp2_with (go_at_call 55; refine (find_some _ B p m _ HD.out s (by omega) hn f hf).mono ?_; rintro e w1 ⟨rfl, rfl⟩; unfold ptr)
          refine (perf_sync _ B p m _ (HD.out.step HB1.out) hon ho hlf _ hst _ HR.out).mono ?_
          rintro e w2 ⟨rfl, h2⟩
          go_wp2
          go_ret
          exact ⟨rfl, h2⟩
        · rw [if_neg hst]
          have hst : (begA x).on = false := by simpa using hst
          go_enter Tryz.func63, Tryz.ntmps63
          go_wp2_with (go_at_call 55; refine (find_some _ B p m _ HD.out s (by omega) hn f hf).mono ?_; rintro e w1 ⟨rfl, rfl⟩; unfold ptr)
          refine (perf_sync_off _ B p m _ (HD.out.step HB1.out) hon ho hlf _ hst).mono ?_
          rintro e w2 ⟨rfl, h2⟩
          go_wp2
          go_ret
          refine ⟨rfl, ⟨es, _, h2.1, hab, .inl ⟨rfl, _, f, hf, rfl, HV1.out.kee h2.2.1 (by unfold Dt; decide)⟩, fun e => ?_⟩, (Kee.bel HB1.out).trans h2.2.1, (HB1.out.mono HLT.out).trans h2.2.2⟩
          have e' : (begA x).on = true := e
          rw [hst] at e'
          cases e'
end Go.Proofs.YtkmdegmpffgplaaGreatDoor
/- disk XXIV: a file is taken out of the map; a file is put into it under another name. -/
namespace Go.Proofs.YtkmdegmpffgplaaGreatDoor
open Go.RowKit Go.Maps Go.Sort Go.Shelf pk
set_option linter.unusedVariables false

/-- what f says behind a delete -/
def dnF (f : Lit → Option Value) (kl : Lit) : Lit → Option Value := fun x => if x.sameKey kl then none else f x
theorem dnF_same (f : Lit → Option Value) {kl : Lit} (hk : WideAt.IsKeyLit kl) : dnF f kl kl = none := by unfold dnF; rw [if_pos (WideAt.sameKey_self hk)]
theorem dnF_other (f : Lit → Option Value) {kl x : Lit} (h : x ≠ kl) : dnF f kl x = f x := by
  unfold dnF
  rw [if_neg (fun e => h (WideAt.sameKey_eq e))]
theorem MapF.drop {w : World} {k t e : TypeId} {b n : Nat} {f : Lit → Option Value} (h : MapF w k b n f) (K : Keyed Tryz.prog k) (ht : Tryz.prog.underlying t = some (.map k e))
    {key : Value} {kl : Lit} (hkey : keyOf Tryz.prog k key = some kl) (ty : TypeId) : ∃ w', (Builtin.delete_ #[t, k] ty #[.map (some b), key]).run Tryz.prog w = .ok (.tuple #[]) w' ∧ MapF w' k b n (dnF f kl) ∧ w.mapTurned w' b := by
  obtain ⟨D, h, hf⟩ := h
  obtain ⟨w', hrun, h', ht'⟩ := h.drop K ht hkey ty
  refine ⟨w', hrun, ⟨_, h', fun x xl hx => ?_⟩, ht'⟩
  by_cases e : xl = kl
  · subst e
    refine ⟨?_, fun z => ?_⟩
    · rw [has_del_same, dnF_same f (K.key hkey)]; rfl
    · rw [atKey_del_same, dnF_same f (K.key hkey)]; rfl
  · refine ⟨?_, fun z => ?_⟩
    · rw [has_del_other e, (hf x xl hx).1, dnF_other f e]
    · rw [atKey_del_other e, (hf x xl hx).2, dnF_other f e]
/-- delete, in a drawn region -/
theorem dlMd {w : World} {y : Nat → Option Bool} {o : Oper} {a : Act} {Q : Exit → Act → World → Prop} {K' : Act → World → Prop} {k0 : Prop} (hgd : Region.wanted o y = true) (m x : Operand) (t k : TypeId) (hop : o.op = Op.call { callee := Callee.builtin Builtin.delete, args := #[m, x], argTypes := #[t, k] })
    (e : TypeId) (K : Keyed Tryz.prog k) (ht : Tryz.prog.underlying t = some (.map k e)) (b n : Nat) (f : Lit → Option Value) (hm : a.eval m = .map (some b)) (h : MapF w k b n f)
    (key : Value) (kl : Lit) (hx : a.eval x = key) (hkey : keyOf Tryz.prog k key = some kl)
    (hK : ∀ w', MapF w' k b n (dnF f kl) → w.mapTurned w' b → K' (a.put o.dst (.tuple #[])) w') : if Region.wanted o y then o.wp Tryz.prog a w K' Q else k0 := by
  rw [if_pos hgd]
  obtain ⟨w', hrun, r1, r2⟩ := h.drop K ht hkey o.type
  unfold Oper.wp
  simp [execOp, hop, resolve, invoke, builtin, hm, hx, hrun, Result.andThen]
  exact hK w' r1 r2
theorem fd_filter {es : List Ent} {a l : List UInt8} : fd (es.filter (fun e => decide (e.nm ≠ a))) l = if l = a then none else fd es l := by
  unfold fd
  induction es with
  | nil => simp
  | cons e es ih =>
    by_cases h1 : e.nm = a
    · rw [List.filter_cons_of_neg (by simpa using h1), ih]
      by_cases h2 : l = a
      · rw [if_pos h2, if_pos h2]
      · rw [if_neg h2, if_neg h2, List.find?_cons, show (e.nm == l) = false by rw [beq_eq_false_iff_ne, h1]; exact fun h => h2 h.symm]
    · rw [List.filter_cons_of_pos (by simpa using h1)]
      by_cases h2 : l = a
      · rw [if_pos h2] at ih ⊢
        rw [List.find?_cons, show (e.nm == l) = false by rw [beq_eq_false_iff_ne, h2]; exact h1, ih]
      · rw [if_neg h2] at ih ⊢
        rw [List.find?_cons, List.find?_cons, ih]
theorem dn_filter {es : List Ent} {a : List UInt8} (ha : a.length ≤ 16) {key : Value} {kl : Lit} (h : keyOf Tryz.prog 9 key = some kl) : dnF (mf es) (.string a) kl = mf (es.filter (fun e => decide (e.nm ≠ a))) kl := by
  obtain ⟨s, rfl, rfl, hs⟩ := str_of h
  show _ = (fd (es.filter _) s.data.toList).map _
  rw [fd_filter]
  by_cases hl : s.data.toList = a
  · rw [if_pos hl, hl, dnF_same _ (keyedS.key (nm_key ha))]
    rfl
  · rw [if_neg hl, dnF_other _ (fun h => hl (by injection h))]
    rfl
theorem up_filter {es : List Ent} {e : Ent} (hb : e.nm.length ≤ 16) {key : Value} {kl : Lit} (h : keyOf Tryz.prog 9 key = some kl) : upF (mf es) (.string e.nm) (ptr e.q) kl = mf (es.filter (fun a => decide (a.nm ≠ e.nm)) ++ [e]) kl := by
  rw [← up_app (es := es.filter (fun a => decide (a.nm ≠ e.nm))) (by rw [fd_filter, if_pos rfl]) h (keyedS.key (nm_key hb))]
  obtain ⟨s, rfl, rfl, hs⟩ := str_of h
  by_cases hl : s.data.toList = e.nm
  · rw [hl, upF_same _ (keyedS.key (nm_key hb)), upF_same _ (keyedS.key (nm_key hb))]
  · rw [upF_other _ _ (fun h => hl (by injection h)), upF_other _ _ (fun h => hl (by injection h))]
    show (fd es _).map _ = (fd (es.filter _) _).map _
    rw [fd_filter, if_neg hl]
theorem tot_filter (P : Ent → Bool) (es : List Ent) : tot (es.filter P) ≤ tot es := by
  induction es with
  | nil => exact Nat.le_refl _
  | cons e es ih =>
    rw [List.filter_cons]
    split <;> simp only [tot] <;> omega
theorem MapF.fitE {w : World} {b n : Nat} {es : List Ent} (h : MapF w 9 b n (mf es)) : MapF w 9 b es.length (mf es) := by
  have := h.fit keyedS (lits es) (fun key kl hk hs => by
    obtain ⟨c, hc⟩ := Option.isSome_iff_exists.1 hs
    obtain ⟨e', h3, h4, _⟩ := mf_some hc
    exact List.mem_map.2 ⟨e', h3, h4.symm⟩)
  rwa [show (lits es).length = es.length by simp [lits]] at this
/-- all but the map is as it was: each file still lies there -/
theorem Dsk.filM {w w' : World} {B p m : Nat} {x : DK} (h : Dsk w B p m x) (k : But (fun i => i = m) w w') : (∀ e ∈ x.es, Fil w' B e) ∧ VA w' p [.int .i64 x.room, .map (some m), .bool x.on, .int .i64 x.ops, .int .i64 x.left, x.und] 106 := by
  obtain ⟨ms, c, hmb⟩ := map_blk h.mp
  have hpm : p ≠ m := fun e => by rw [← e, h.va.blk] at hmb; cases hmb
  exact ⟨fun e he => (h.fil e he).but k (fun e2 => by rw [← e2, (h.fil e he).blk.blk] at hmb; cases hmb) (fun g hg e2 => by
    obtain ⟨cs, hcs⟩ := row_blk (h.fil e he).row hg
    rw [e2, hmb] at hcs
    cases hcs), h.va.but k hpm⟩
theorem Dsk.del {w w' : World} {B p m : Nat} {x : DK} (h : Dsk w B p m x) {a : List UInt8} (ha : a.length ≤ 16) (k : But (fun i => i = m) w w') (hm : MapF w' 9 m x.es.length (dnF (mf x.es) (.string a))) :
    Dsk w' B p m { x with es := x.es.filter (fun e => decide (e.nm ≠ a)) } := by
  obtain ⟨hf, hv⟩ := h.filM k
  refine ⟨hv, (hm.congr (fun key kl hk => dn_filter ha hk)).fitE, fun e he => hf e (List.mem_filter.1 he).1, h.ap.filter _, h.lo, ?_, h.fits.2.1, ?_⟩
  · have := tot_filter (fun e => decide (e.nm ≠ a)) x.es
    have := h.fits.1
    show tot (x.es.filter _) ≤ x.room
    omega
  · have := List.length_filter_le (fun e : Ent => decide (e.nm ≠ a)) x.es
    have := h.fits.2.2
    show (x.es.filter _).length ≤ 64
    omega
/-- a file is laid into the map under the name b -/
theorem Dsk.putAs {w w' : World} {B p m : Nat} {x : DK} (h : Dsk w B p m x) {e : Ent} (hn : e.nm.length ≤ 16) (k : But (fun i => i = m) w w') (hm : MapF w' 9 m (x.es.length + 1) (upF (mf x.es) (.string e.nm) (ptr e.q)))
    (hF : Fil w' B e) (hap : ∀ a ∈ x.es, a.q ≠ e.q ∧ ∀ g, a.v.ownBlock = some g → e.v.ownBlock ≠ some g) (ht : tot x.es + e.ss.length ≤ x.room) (hl : x.es.length < 64) :
    Dsk w' B p m { x with es := x.es.filter (fun a => decide (a.nm ≠ e.nm)) ++ [e] } := by
  obtain ⟨hf, hv⟩ := h.filM k
  refine ⟨hv, (hm.congr (fun key kl hk => up_filter hn hk)).fitE, fun a ha => ?_, List.pairwise_append.2 ⟨h.ap.filter _, List.pairwise_singleton _ _, fun a ha b hb => ?_⟩, h.lo, ?_, h.fits.2.1, ?_⟩
  · rcases List.mem_append.1 ha with ha | ha
    · exact hf a (List.mem_filter.1 ha).1
    · obtain rfl := List.mem_singleton.1 ha
      exact hF
  · obtain rfl := List.mem_singleton.1 hb
    obtain ⟨h1, h2⟩ := List.mem_filter.1 ha
    exact ⟨by simpa using h2, (hap a h1).1, (hap a h1).2⟩
  · have := tot_filter (fun a => decide (a.nm ≠ e.nm)) x.es
    show tot (x.es.filter _ ++ [e]) ≤ x.room
    rw [tot_app]
    simp only [tot]
    omega
  · have := List.length_filter_le (fun a : Ent => decide (a.nm ≠ e.nm)) x.es
    show (x.es.filter _ ++ [e]).length ≤ 64
    rw [List.length_append, List.length_singleton]
    omega
theorem ab_filter (es : List Ent) (P : List UInt8 → Bool) : ab (es.filter (fun e => P e.nm)) = (ab es).filter (fun t => P t.1) := by
  unfold ab
  rw [List.filter_map]
  rfl
end Go.Proofs.YtkmdegmpffgplaaGreatDoor
