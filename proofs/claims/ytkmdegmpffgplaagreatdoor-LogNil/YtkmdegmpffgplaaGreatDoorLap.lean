/- disk XX: the disk's files as plain lists; awake. -/
import Derived.Test.YtkmdegmpffgplaaGreatDoorLao
namespace Go.Proofs.YtkmdegmpffgplaaGreatDoor
open Go.RowKit Go.Maps Go.Sort Go.Shelf pk
set_option linter.unusedVariables false

abbrev FS := List (List UInt8 × List (List Nat) × Nat)
def totA : FS → Nat
  | [] => 0
  | t :: fs => t.2.1.length + totA fs
theorem tot_ab (es : List Ent) : tot es = totA (ab es) := by
  induction es with
  | nil => rfl
  | cons e es ih => show e.ss.length + tot es = e.ss.length + totA (ab es); rw [ih]
theorem find_ab' (es : List Ent) (l : List UInt8) : (ab es).find? (fun t => t.1 == l) = (fd es l).map fun e => (e.nm, e.ss, e.sy) := by
  unfold ab fd
  rw [List.find?_map]
  rfl
def fitA (room : Nat) (fs : FS) (l : List UInt8) (k : Nat) : Bool := !((fs.find? (fun t => t.1 == l)).isNone && decide (fs.length = 64)) && decide (k ≤ room - totA fs)
theorem fit_ab (x : DK) (l : List UInt8) (k : Nat) : fit x l k = fitA x.room (ab x.es) l k := by
  unfold fit fitA
  rw [find_ab', tot_ab]
  congr 2
  · congr 1
    · cases fd x.es l <;> rfl
    · simp [ab]
theorem fd_ab {es : List Ent} {l n : List UInt8} {ss : List (List Nat)} {sy : Nat} (h : (ab es).find? (fun t => t.1 == l) = some (n, ss, sy)) : ∃ f, fd es l = some f ∧ f.ss = ss ∧ f.sy = sy ∧ f.nm = n := by
  rw [find_ab'] at h
  obtain ⟨f, h1, h2⟩ := Option.map_eq_some_iff.1 h
  cases h2
  exact ⟨f, h1, rfl, rfl, rfl⟩
theorem names_ab (es : List Ent) : es.map (·.nm) = (ab es).map (·.1) := by simp [ab]
/-- a row of bytes that is known whole -/
theorem own_blk {w : World} {g n B : Nat} {bs : List Nat} (h : w.heap[g]? = some (.cells (cl bs).toArray 5 (0, 0))) (hn : bs.length = n) (hb : By bs) (hm : n ≤ 140737488355328) (hB : B ≤ g) : OwnB w B (.slice (some ⟨g, 0, none⟩) n n) bs := by
  subst hn
  exact ⟨hb, by rw [cl_len]; omega, Or.inr ⟨g, bs.length, _, rfl, hB, h, Nat.le_refl _, by unfold maxLen; omega, by simp [cl], by rw [Nat.mul_one, ← cl_len bs]; exact List.take_length⟩⟩
theorem by_zeros (n : Nat) : By (List.replicate n 0) := fun x hx => by rw [List.eq_of_mem_replicate hx]; omega
theorem made_by (n : Nat) : madeCells (Value.int .u8 0).cells (n * 1) = (cl (List.replicate n 0)).toArray := by
  show (Array.range (n * 1)).map _ = _
  refine Array.ext_getElem? fun i => ?_
  by_cases h : i < n
  · simp [cl, h, Nat.mod_one, Value.cells]
  · simp [cl, h]
theorem mk_by (n : Nat) (hn : n ≤ 1000000) (w : World) : (Instr.makeSlice 22 (.int .i64 (n : Int)) (.int .i64 (n : Int))).run Tryz.prog w = .ok (.slice (some ⟨w.heap.size, 0, none⟩) n n) (w.alloc (.cells (cl (List.replicate n 0)).toArray 5)) := by
  obtain ⟨i0, hi, hz0, hz1, hz2⟩ := info8_parts
  have h := run_make (P := Tryz.prog) w 22 5 i0 _ Tryz.underlying22 hi hz0 .i64 .i64 n n (by omega) (by omega) (by rw [hz2]; omega) (by omega)
  rw [hz1] at h
  simp only [Int.toNat_natCast] at h
  rw [made_by] at h
  exact h
theorem own_mk (n : Nat) (hn : n ≤ 1000000) (w : World) : OwnB (w.alloc (.cells (cl (List.replicate n 0)).toArray 5)) w.heap.size (.slice (some ⟨w.heap.size, 0, none⟩) n n) (List.replicate n 0) :=
  own_blk (Go.heap_alloc_new w _) (by simp) (by_zeros n) (by omega) (Nat.le_refl _)
/-- a row of truth values that is known whole -/
theorem bl_blk {w : World} {g : Nat} {ks : List Bool} (h : VA w g (ks.map Value.bool) 4) (hm : ks.length ≤ 140737488355328) : Bl w (.slice (some ⟨g, 0, none⟩) ks.length ks.length) ks ∧ Safe w (.slice (some ⟨g, 0, none⟩) ks.length ks.length) := by
  refine ⟨⟨some ⟨g, 0, none⟩, ks.length, rfl, Nat.le_refl _, by omega, fun _ => ⟨g, 0, rfl, fun i hi => ?_⟩⟩, fun b off n c e => ?_⟩
  · rw [Nat.zero_add]
    exact h.cell i (by simp [hi])
  · cases e
    exact ⟨_, _, _, h.blk, by unfold Dt; decide⟩
theorem one_perm {ns : List (List UInt8)} {l : List UInt8} (h : ns.Perm [l]) : ns = [l] := List.perm_singleton.1 h
theorem awake_sum : (stl [false, true, true] [[97]] [([97], parts (List.replicate 33 0) ++ parts [7], 0)]).1 = [([97], [[], [0], [7]], 3)] := by decide
theorem awake_parts : parts (List.replicate 33 0) = [List.replicate 32 0, [0]] := by decide
end Go.Proofs.YtkmdegmpffgplaaGreatDoor
/- disk XXII: the disk in plain words; what is left undone; Sync, Truncate, whatever comes. -/
namespace Go.Proofs.YtkmdegmpffgplaaGreatDoor
open Go.RowKit Go.Maps Go.Sort Go.Shelf pk
set_option linter.unusedVariables false

/-- an operation: 1 Sync, 2 Truncate, 3 Rename, 4 Remove -/
structure POp where
  k : Nat
  a : List UInt8
  b : List UInt8
  n : Nat
/-- the file of that name -/
def lk (fs : FS) (l : List UInt8) : Option (List UInt8 × List (List Nat) × Nat) := fs.find? (fun t => t.1 == l)
/-- an operation is done -/
def doOp (o : POp) (fs : FS) : FS :=
  if o.k = 1 then fs.map (fun t => if t.1 = o.a then (t.1, t.2.1, t.2.1.length) else t)
  else if o.k = 2 then fs.map (fun t => if t.1 = o.a then (t.1, t.2.1.take o.n, min o.n t.2.1.length) else t)
  else if o.k = 3 then (match lk fs o.a with
    | none => fs
    | some t => fs.filter (fun u => decide (u.1 ≠ o.a ∧ u.1 ≠ o.b)) ++ [(o.b, t.2.1, t.2.2)])
  else fs.filter (fun t => decide (t.1 ≠ o.a))
/-- a disk in plain words -/
structure AD where
  room : Nat
  ops : Nat
  left : Nat
  on : Bool
  und : Option POp
  fs : FS
/-- the closure of what was left undone -/
def Und (w : World) (p : Nat) (es : List Ent) (o : Option POp) (u : Value) : Prop :=
  match o with
  | none => u = .nilFunc
  | some q =>
    (q.k = 1 ∧ ∃ Bf e, fd es q.a = some e ∧ u = .func (.func 91) #[] #[ptr Bf] ∧ VA w Bf [ptr e.q] 110)
    ∨ (q.k = 2 ∧ q.n ≤ 9223372036854775807 ∧ ∃ Bf Bn e, fd es q.a = some e ∧ u = .func (.func 113) #[] #[ptr Bf, ptr Bn] ∧ VA w Bf [ptr e.q] 110 ∧ VA w Bn [.int .i64 (q.n : Int)] 3)
    ∨ (q.k = 3 ∧ False)
    ∨ (q.k = 4 ∧ ∃ Bd Ba e, fd es q.a = some e ∧ u = .func (.func 79) #[] #[ptr Bd, ptr Ba] ∧ VA w Bd [ptr p] 41 ∧ VA w Ba [.string ⟨q.a.toArray⟩] 9)
theorem Und.kee {w w' : World} {p : Nat} {es : List Ent} {o : Option POp} {u : Value} (h : Und w p es o u) (k : Kee w w') : Und w' p es o u := by
  cases o with
  | none => exact h
  | some q =>
    rcases h with ⟨h1, Bf, e, h2, h3, h4⟩ | ⟨h1, hn, Bf, Bn, e, h2, h3, h4, h5⟩ | ⟨h1, hn, Bd, Ba, Bf, Bb, e, h2, h3, h4, h5, h6, h7⟩ | ⟨h1, Bd, Ba, e, h2, h3, h4, h5⟩
    · exact .inl ⟨h1, Bf, e, h2, h3, h4.kee k (by unfold Dt; decide)⟩
    · exact .inr (.inl ⟨h1, hn, Bf, Bn, e, h2, h3, h4.kee k (by unfold Dt; decide), h5.kee k (by unfold Dt; decide)⟩)
    · exact .inr (.inr (.inr ⟨h1, Bd, Ba, e, h2, h3, h4.kee k (by unfold Dt; decide), h5.kee k (by unfold Dt; decide)⟩))
/-- the disk in memory is that one -/
def DA (w : World) (B p m : Nat) (x : AD) : Prop := ∃ es u, Dsk w B p m ⟨x.room, x.ops, x.left, x.on, u, es⟩ ∧ ab es = x.fs ∧ Und w p es x.und u ∧ (x.on = true → x.und = none)
theorem DA.step {w w' : World} {B p m : Nat} {x : AD} (h : DA w B p m x) (k : Below w.heap.size w w') : DA w' B p m x := by
  obtain ⟨es, u, h1, h2, h3, h4⟩ := h
  exact ⟨es, u, h1.step k, h2, h3.kee (Kee.bel k), h4⟩
theorem DA.lt {w : World} {B p m : Nat} {x : AD} (h : DA w B p m x) : B ≤ w.heap.size := by
  obtain ⟨es, u, h1, _⟩ := h
  exact Nat.le_trans h1.lo.1 (Nat.le_of_lt h1.va.lt)
def begA (x : AD) : AD := { x with ops := x.ops + 1, left := x.left - 1, on := decide (x.left ≠ 1) }
/-- what an operation answers, and leaves -/
def oper (x : AD) (o : POp) : Nat × AD :=
  if (isNm o.a && (decide (o.k ≠ 3) || isNm o.b)) = false then (1, x)
  else if (lk x.fs o.a).isNone then (7, x)
  else if x.on = false then (18, x)
  else if (begA x).on then (0, { begA x with fs := doOp o x.fs }) else (18, { begA x with und := some o })
/-- what a call leaves -/
def Lv (w w' : World) (B p m : Nat) (x' : AD) : Prop := DA w' B p m x' ∧ Kee w w' ∧ Below B w w'
theorem Lv.same {w : World} {B p m : Nat} {x : AD} (h : DA w B p m x) : Lv w w B p m x := ⟨h, Kee.refl w, Below.refl _ _⟩
theorem Lv.step {w w' : World} {B p m : Nat} {x : AD} (h : DA w B p m x) (k : Below w.heap.size w w') : Lv w w' B p m x := ⟨h.step k, Kee.bel k, k.mono h.lt⟩
theorem lk_ab (es : List Ent) (l : List UInt8) : lk (ab es) l = (fd es l).map fun e => (e.nm, e.ss, e.sy) := find_ab' es l
theorem nm_size {s : ByteArray} (h : isNm s.data.toList = true) : s.size ≤ 16 := by
  unfold isNm at h
  simp only [Bool.and_eq_true, decide_eq_true_eq] at h
  have h2 := h.1.2
  have hl : s.data.toList.length = s.size := by cases s; rfl
  omega
theorem perf_down (w : World) (B p m : Nat) (x : DK) (h : Dsk w B p m x) (hon : x.on = false) (g : Nat) (bs : Array Value) :
    Calls Tryz.prog 78 #[ptr p, .func (.func g) #[] bs] w fun r w' => r = .returned (.int .i64 18) ∧ w' = w := by
  have y := h.va.cell 2 (v := .bool x.on) rfl
  rw [hon] at y
  clear h
  have hp : (ptr p) = .pointer (some ⟨p, 0, none⟩) := rfl
  rw [hp]
  go_enter Tryz.func78, Tryz.ntmps78
  go_wp2
  go_ret
  exact ⟨rfl, rfl⟩
theorem find_bad' (w : World) (v : Value) (s : ByteArray) (hs : s.size ≤ 9223372036854775807) (hn : isNm s.data.toList = false) :
    Calls Tryz.prog 55 #[v, .string s] w fun e w' => e = .returned (.tuple #[.pointer none, .int .i64 1]) ∧ w' = w := by
  have HC := (show Hid _ from fun w => isName_ok s w hs)
  go_enter Tryz.func55, Tryz.ntmps55
  go_wp2_with (go_at_call 51; refine (HC.out _).mono ?_; rintro e w' ⟨rfl, rfl⟩; rw [hn])
  refine bodyPost_ret (v := .tuple #[.pointer none, .int .i64 1]) (by simp [results, Tryz.results55, go_sem]) rfl ?_
  exact ⟨rfl, rfl⟩
/-- find, whatever comes -/
theorem find_any (w : World) (B p m : Nat) (x : DK) (h : Dsk w B p m x) (s : ByteArray) (hs : s.size ≤ 9223372036854775807) :
    Calls Tryz.prog 55 #[ptr p, .string s] w fun e w' => (e = .returned (.tuple #[match (if isNm s.data.toList then fd x.es s.data.toList else none) with | some f => ptr f.q | none => .pointer none, .int .i64 ((if isNm s.data.toList = false then 1 else if (fd x.es s.data.toList).isNone then 7 else 0 : Nat) : Int)])) ∧ w' = w := by
  cases hn : isNm s.data.toList with
  | false =>
    refine (find_bad' w (ptr p) s hs hn).mono ?_
    rintro e w' ⟨rfl, rfl⟩
    exact ⟨rfl, rfl⟩
  | true =>
    have := nm_size hn
    cases hf : fd x.es s.data.toList with
    | none =>
      refine (find_none w B p m x h s (by omega) hn hf).mono ?_
      rintro e w' ⟨rfl, rfl⟩
      exact ⟨rfl, rfl⟩
    | some f =>
      refine (find_some w B p m x h s (by omega) hn f hf).mono ?_
      rintro e w' ⟨rfl, rfl⟩
      exact ⟨rfl, rfl⟩
end Go.Proofs.YtkmdegmpffgplaaGreatDoor
