/- disk V: the disk in memory: its header, the map of its files, the files and their sectors; what a step leaves. -/
import Derived.Test.YtgabklihgjjjeaaGreatDoorDkd
namespace Go.Proofs.YtgabklihgjjjeaaGreatDoor
open Go.RowKit Go.Shelf Go.Maps pk
set_option linter.unusedVariables false

/-- a file: its name, where it lies, its row of sectors, what they hold, how many are synced -/
structure Ent where
  nm : List UInt8
  q : Nat
  v : Value
  ss : List (List Nat)
  sy : Nat
/-- the file of that name -/
def fd (es : List Ent) (l : List UInt8) : Option Ent := es.find? (fun e => e.nm == l)
def ptr (q : Nat) : Value := .pointer (some ⟨q, 0, none⟩)
/-- what the map says -/
def mf (es : List Ent) : Lit → Option Value
  | .string l => (fd es l).map fun e => ptr e.q
  | _ => none
/-- two files have nothing in common -/
def Apart (a b : Ent) : Prop := a.nm ≠ b.nm ∧ a.q ≠ b.q ∧ ∀ g, a.v.ownBlock = some g → b.v.ownBlock ≠ some g
/-- how many sectors there are -/
def tot : List Ent → Nat
  | [] => 0
  | e :: es => e.ss.length + tot es
theorem tot_app (a b : List Ent) : tot (a ++ b) = tot a + tot b := by
  induction a with
  | nil => simp [tot]
  | cons e a ih => simp [tot, ih]; omega
/-- a file in memory -/
structure Fil (w : World) (B : Nat) (e : Ent) : Prop where
  blk : VA w e.q [e.v, .int .i64 e.sy] 105
  row : Own KS w B e.v e.ss
  lo : B ≤ e.q
  sy : e.sy ≤ e.ss.length
  byte : ∀ s ∈ e.ss, By s
  nm : e.nm.length ≤ 16
/-- a disk in plain numbers -/
structure DK where
  room : Nat
  ops : Nat
  left : Nat
  on : Bool
  und : Value
  es : List Ent
structure Dsk (w : World) (B p m : Nat) (x : DK) : Prop where
  va : VA w p [.int .i64 x.room, .map (some m), .bool x.on, .int .i64 x.ops, .int .i64 x.left, x.und] 73
  mp : MapF w 9 m x.es.length (mf x.es)
  fil : ∀ e ∈ x.es, Fil w B e
  ap : x.es.Pairwise Apart
  lo : B ≤ p ∧ B ≤ m
  fits : tot x.es ≤ x.room ∧ x.room ≤ 65536 ∧ x.es.length ≤ 64
theorem keyedS : Keyed Tryz.prog 9 := string_keyed Tryz.underlying9
theorem keyS {s : ByteArray} (h : s.size ≤ 1048576) : keyOf Tryz.prog 9 (.string s) = some (.string s.data.toList) := Go.WideMaps.keyOf_string_mk Tryz.underlying9 (by unfold maxLen; omega)
theorem Fil.step {w w' : World} {B : Nat} {e : Ent} (h : Fil w B e) (k : Below w.heap.size w w') : Fil w' B e := ⟨h.blk.step k, h.row.step k, h.lo, h.sy, h.byte, h.nm⟩
theorem Fil.but {X : Nat → Prop} {w w' : World} {B : Nat} {e : Ent} (h : Fil w B e) (k : But X w w') (hq : ¬ X e.q) (hv : ∀ g, e.v.ownBlock = some g → ¬ X g) : Fil w' B e := ⟨h.blk.but k hq, h.row.but k hv, h.lo, h.sy, h.byte, h.nm⟩
theorem Dsk.step {w w' : World} {B p m : Nat} {x : DK} (h : Dsk w B p m x) (k : Below w.heap.size w w') : Dsk w' B p m x := ⟨h.va.step k, h.mp.step k, fun e he => (h.fil e he).step k, h.ap, h.lo, h.fits⟩
/-- a row's block is one of sectors -/
theorem row_blk {w : World} {B : Nat} {v : Value} {ss : List (List Nat)} (h : Own KS w B v ss) {g : Nat} (hg : v.ownBlock = some g) : ∃ cs, w.heap[g]? = some (.cells cs 107 (0, 0)) := by
  rcases h.own.2 with ⟨rfl, _⟩ | ⟨q, cap, cur, rfl, _, hq, _⟩
  · cases hg
  · cases hg
    exact ⟨_, hq⟩
theorem map_blk {w : World} {k : TypeId} {b n : Nat} {f : Lit → Option Value} (h : MapF w k b n f) : ∃ es c, w.heap[b]? = some (.map es c) := by
  obtain ⟨D, ⟨es, clock, hb, _⟩, _⟩ := h
  exact ⟨es, clock, hb⟩
/-- blocks that a change of one file touches -/
def XF (e : Ent) (i : Nat) : Prop := i = e.q ∨ e.v.ownBlock = some i
/-- only blocks of one file changed: the disk is the one with that file -/
theorem Dsk.put {w w' : World} {B p m : Nat} {x : DK} (h : Dsk w B p m x) {l1 l2 : List Ent} {e e' : Ent} (hx : x.es = l1 ++ e :: l2) (k : But (XF e) w w') (hf : Fil w' B e') (hn : e'.nm = e.nm) (hq : e'.q = e.q)
    (hv : ∀ g, e'.v.ownBlock = some g → e.v.ownBlock = some g ∨ w.heap.size ≤ g) (ht : tot l1 + e'.ss.length + tot l2 ≤ x.room) : Dsk w' B p m { x with es := l1 ++ e' :: l2 } := by
  have he := h.fil e (by rw [hx]; simp)
  have hnx : ∀ i, XF e i → (∃ cs T, w.heap[i]? = some (Obj.cells cs T (0, 0)) ∧ (T = 105 ∨ T = 107)) := fun i hi => by
    rcases hi with rfl | hi
    · exact ⟨_, _, he.blk.blk, .inl rfl⟩
    · obtain ⟨cs, hc⟩ := row_blk he.row hi
      exact ⟨cs, _, hc, .inr rfl⟩
  have ap := h.ap
  rw [hx] at ap
  obtain ⟨a1, a2, a3⟩ := List.pairwise_append.1 ap
  obtain ⟨a4, a5⟩ := List.pairwise_cons.1 a2
  have hap : ∀ a, a ∈ l1 ∨ a ∈ l2 → a.q ≠ e.q ∧ (∀ g, a.v.ownBlock = some g → e.v.ownBlock ≠ some g) ∧ a.nm ≠ e.nm := fun a ha => by
    rcases ha with ha | ha
    · have := a3 a ha e (List.mem_cons_self ..)
      exact ⟨this.2.1, this.2.2, this.1⟩
    · have := a4 a ha
      exact ⟨this.2.1.symm, fun g hg e2 => this.2.2 g e2 hg, this.1.symm⟩
  have hmem : ∀ a, a ∈ l1 ∨ a ∈ l2 → a ∈ x.es := fun a ha => by rw [hx]; rcases ha with ha | ha <;> simp [ha]
  have hoth : ∀ a, a ∈ l1 ∨ a ∈ l2 → Fil w' B a := fun a ha => by
    have ha' := h.fil a (hmem a ha)
    refine ha'.but k (fun hX => ?_) (fun g hg hX => ?_)
    · rcases hX with hX | hX
      · exact (hap a ha).1 hX
      · obtain ⟨cs, hc⟩ := row_blk he.row hX
        rw [ha'.blk.blk] at hc
        cases hc
    · rcases hX with rfl | hX
      · obtain ⟨cs, hc⟩ := row_blk ha'.row hg
        rw [he.blk.blk] at hc
        cases hc
      · exact (hap a ha).2.1 g hg hX
  refine ⟨h.va.but k (fun hX => ?_), ?_, fun a ha => ?_, ?_, h.lo, ⟨?_, h.fits.2.1, ?_⟩⟩
  · obtain ⟨cs, T, hc, hT⟩ := hnx _ hX
    rw [h.va.blk] at hc
    cases hc
    rcases hT with hT | hT <;> cases hT
  · have hm := h.mp.but k (fun hX => by
      obtain ⟨cs, T, hc, hT⟩ := hnx _ hX
      obtain ⟨es, c, hm⟩ := map_blk h.mp
      rw [hm] at hc
      cases hc)
    have e1 : mf x.es = mf (l1 ++ e' :: l2) := by
      funext kl
      cases kl with
      | string l =>
        show (fd x.es l).map _ = (fd (l1 ++ e' :: l2) l).map _
        rw [hx]
        unfold fd
        rw [List.find?_append, List.find?_append]
        cases List.find? (fun e => e.nm == l) l1 with
        | some a => rfl
        | none =>
          simp only [Option.none_or, List.find?_cons, hn]
          cases (e.nm == l)
          · rfl
          · simp [hq]
      | _ => rfl
    rw [e1] at hm
    have e2 : x.es.length = (l1 ++ e' :: l2).length := by rw [hx]; simp
    rw [e2] at hm
    exact hm
  · rcases List.mem_append.1 ha with ha | ha
    · exact hoth a (.inl ha)
    · rcases List.mem_cons.1 ha with rfl | ha
      · exact hf
      · exact hoth a (.inr ha)
  · have hlt : ∀ a, a ∈ l1 ∨ a ∈ l2 → ∀ g, a.v.ownBlock = some g → e'.v.ownBlock ≠ some g := fun a ha g hg hg' => by
      rcases hv g hg' with h1 | h1
      · exact (hap a ha).2.1 g hg h1
      · have := (h.fil a (hmem a ha)).row.lt g hg
        omega
    refine List.pairwise_append.2 ⟨a1, List.pairwise_cons.2 ⟨fun b hb => ?_, a5⟩, fun a ha b hb => ?_⟩
    · exact ⟨by rw [hn]; exact (a4 b hb).1, by rw [hq]; exact (a4 b hb).2.1, fun g hg hg' => hlt b (.inr hb) g hg' hg⟩
    · rcases List.mem_cons.1 hb with rfl | hb
      · exact ⟨by rw [hn]; exact (hap a (.inl ha)).2.2, by rw [hq]; exact (hap a (.inl ha)).1, hlt a (.inl ha)⟩
      · exact a3 a ha b (List.mem_cons_of_mem _ hb)
  · rw [tot_app]
    simp only [tot]
    omega
  · have := h.fits.2.2
    rw [hx] at this
    simpa using this
/-- the header alone changed -/
theorem Dsk.head {w w' : World} {B p m : Nat} {x : DK} (h : Dsk w B p m x) (k : Upd p w w') (ops left : Nat) (on : Bool) (u : Value)
    (hv : VA w' p [.int .i64 x.room, .map (some m), .bool on, .int .i64 ops, .int .i64 left, u] 73) : Dsk w' B p m { x with ops := ops, left := left, on := on, und := u } := by
  refine ⟨hv, h.mp.but k.but (fun hX => ?_), fun e he => (h.fil e he).but k.but (fun hX => ?_) (fun g hg hX => ?_), h.ap, h.lo, h.fits⟩
  · obtain ⟨es, c, hm⟩ := map_blk h.mp
    rw [hX, h.va.blk] at hm
    cases hm
  · have := (h.fil e he).blk.blk
    rw [hX, h.va.blk] at this
    injection this with this
    injection this with _ hT _
    cases hT
  · obtain ⟨cs, hc⟩ := row_blk (h.fil e he).row hg
    rw [hX, h.va.blk] at hc
    cases hc
theorem fd_split {es : List Ent} {l : List UInt8} {e : Ent} (h : fd es l = some e) : ∃ l1 l2, es = l1 ++ e :: l2 ∧ e.nm = l ∧ fd l1 l = none := by
  unfold fd at h ⊢
  obtain ⟨h1, l1, l2, h2, h3⟩ := List.find?_eq_some_iff_append.1 h
  exact ⟨l1, l2, h2, by simpa using h1, by simpa using h3⟩
end Go.Proofs.YtgabklihgjjjeaaGreatDoor
/- disk VI: the small functions: New, begin, On, Ops, Arm, needed, isName. -/
namespace Go.Proofs.YtgabklihgjjjeaaGreatDoor
open Go.RowKit Go.Shelf Go.Maps pk
set_option linter.unusedVariables false

theorem needed_ok (v : Value) (bs : List Nat) (w : World) (h : Bs w v bs) (hl : bs.length ≤ 140737488355328) :
    Calls Tryz.prog 88 #[v] w fun e w' => e = .returned (.int .i64 (cnt bs.length : Nat)) ∧ w' = w := by
  obtain ⟨hby, a, c, rfl, h1, h2, h3, h4⟩ := h
  clear h4 h3
  generalize hn : bs.length = len at *
  clear hn hby
  by_cases h0 : len % 32 = 0
  · have d1 : (len : Int) % 32 = 0 := by omega
    have d2 : ((cnt len : Nat) : Int) = (len : Int) / 32 := by unfold cnt; omega
    rw [d2]
    clear d2
    go_enter Tryz.func88, Tryz.ntmps88
    go_wp2
    go_ret
    exact ⟨rfl, rfl⟩
  · have d1 : 0 < (len : Int) % 32 := by omega
    have d2 : ((cnt len : Nat) : Int) = (len : Int) / 32 + 1 := by unfold cnt; omega
    have d3 : (len : Int) / 32 + 1 ≤ 140737488355328 := by omega
    rw [d2]
    clear d2
    go_enter Tryz.func88, Tryz.ntmps88
    go_wp2
    go_ret
    exact ⟨rfl, rfl⟩
theorem on_ok (w : World) (B p m : Nat) (x : DK) (h : Dsk w B p m x) : Calls Tryz.prog 19 #[ptr p] w fun e w' => e = .returned (.bool x.on) ∧ w' = w := by
  have y := h.va.cell 2 (v := .bool x.on) rfl
  unfold ptr
  go_enter Tryz.func19, Tryz.ntmps19
  go_wp2
  go_ret
  exact ⟨rfl, rfl⟩
/-- what a call that changes the header leaves -/
def Hdr (w w' : World) (B p m : Nat) (x' : DK) : Prop := Dsk w' B p m x' ∧ Kee w w' ∧ Below B w w'
theorem hdr_of {w w' : World} {B p m : Nat} {x : DK} (h : Dsk w B p m x) (k : Upd p w w') (ops left : Nat) (on : Bool) (u : Value)
    (hv : VA w' p [.int .i64 x.room, .map (some m), .bool on, .int .i64 ops, .int .i64 left, u] 73) : Hdr w w' B p m { x with ops := ops, left := left, on := on, und := u } :=
  ⟨h.head k ops left on u hv, Kee.upd k h.va (.inl rfl), k.bel (Below.refl _ _) h.lo.1⟩
theorem arm_ok (w : World) (B p m : Nat) (x : DK) (h : Dsk w B p m x) (n : Nat) (hn : n ≤ 9223372036854775807) (hon : x.on = true) : Calls Tryz.prog 14 #[ptr p, .int .i64 (n : Int)] w fun e w' => e = .returned (.int .i64 0) ∧ Hdr w w' B p m { x with left := n } := by
  have y := h.va.cell 2 (v := .bool x.on) rfl
  rw [hon] at y
  have y4 := h.va.cell 4 (v := .int .i64 x.left) rfl
  have f4 := h.va.free 4
  have d1 : (0 : Int) ≤ (n : Int) := by omega
  have HH := (show Hid _ from h)
  clear h
  unfold ptr
  go_enter Tryz.func14, Tryz.ntmps14
  go_wp2
  go_ret
  exact ⟨rfl, hdr_of HH.out (upd_set _ _ _ _) x.ops n x.on x.und (HH.out.va.set 4 _)⟩
theorem arm_off (w : World) (B p m : Nat) (x : DK) (h : Dsk w B p m x) (n : Nat) (hn : n ≤ 9223372036854775807) (hon : x.on = false) : Calls Tryz.prog 14 #[ptr p, .int .i64 (n : Int)] w fun e w' => e = .returned (.int .i64 18) ∧ w' = w := by
  have y := h.va.cell 2 (v := .bool x.on) rfl
  rw [hon] at y
  have d1 : (0 : Int) ≤ (n : Int) := by omega
  clear h
  unfold ptr
  go_enter Tryz.func14, Tryz.ntmps14
  go_wp2
  go_ret
  exact ⟨rfl, rfl⟩
/-- what begin makes of the header -/
def beg (x : DK) : DK := { x with ops := x.ops + 1, left := x.left - 1, on := decide (x.left ≠ 1) }
theorem begin_ok (w : World) (B p m : Nat) (x : DK) (h : Dsk w B p m x) (hon : x.on = true) (ho : x.ops ≤ 4611686018427387904) (hl : x.left ≤ 9223372036854775807) :
    Calls Tryz.prog 70 #[ptr p] w fun e w' => e = .returned (.bool (beg x).on) ∧ Hdr w w' B p m (beg x) := by
  have V := h.va
  rw [hon] at V
  have y2 := V.cell 2 (v := .bool true) rfl
  have y3 := V.cell 3 (v := .int .i64 x.ops) rfl
  have y4 := V.cell 4 (v := .int .i64 x.left) rfl
  have f2 := V.free 2
  have f3 := V.free 3
  have f4 := V.free 4
  have HH := (show Hid _ from h)
  have HV := (show Hid _ from V)
  have d0 : (x.ops : Int) + 1 ≤ 9223372036854775807 := by omega
  clear h V
  unfold ptr
  by_cases h0 : x.left = 0
  · rw [h0] at y4
    go_enter Tryz.func70, Tryz.ntmps70
    go_wp2
    go_ret
    have hb : beg x = { x with ops := x.ops + 1, left := 0, on := true, und := x.und } := by unfold beg; simp [h0]
    rw [hb]
    refine ⟨rfl, hdr_of HH.out (upd_set _ _ _ _) (x.ops + 1) 0 true x.und ?_⟩
    have := HV.out.set 3 (.int .i64 ((x.ops : Int) + 1))
    rw [h0] at this
    simpa using this
  · obtain ⟨k, hk⟩ : ∃ k, x.left = k + 1 := ⟨x.left - 1, by omega⟩
    rw [hk] at y4 hl
    have d1 : (0 : Int) < ((k + 1 : Nat) : Int) := by omega
    have hb : beg x = { x with ops := x.ops + 1, left := k, on := decide (0 < k), und := x.und } := by unfold beg; simp [hk, Nat.pos_iff_ne_zero]
    rw [hb]
    go_enter Tryz.func70, Tryz.ntmps70
    go_wp2
    go_ret
    refine ⟨rfl, hdr_of HH.out (((upd_set _ _ _ _).trans (upd_set _ _ _ _)).trans (upd_set _ _ _ _)) (x.ops + 1) k (decide (0 < k)) x.und ?_⟩
    have := ((HV.out.set 3 (.int .i64 ((x.ops : Int) + 1))).set 4 (.int .i64 (k : Int))).set 2 (.bool (decide (0 < k)))
    simpa using this
theorem new_ok (n : Nat) (w : World) (h : 1 ≤ n) (h2 : n ≤ 65536) :
    Calls Tryz.prog 13 #[.int .i64 (n : Int)] w fun e w' => ∃ p m, e = .returned (.tuple #[ptr p, .int .i64 0]) ∧ Dsk w' w.heap.size p m ⟨n, 0, 0, true, .nilFunc, []⟩ ∧ Below w.heap.size w w' := by
  have d1 : (1 : Int) ≤ (n : Int) := by omega
  have d2 : (n : Int) ≤ 65536 := by omega
  have hmm := @run_makeMap Tryz.prog
  go_enter Tryz.func13, Tryz.ntmps13
  go_wp2
  refine bodyPost_ret (v := .tuple #[ptr (w.heap.size + 1), .int .i64 0]) (by simp [results, Tryz.results13, go_sem, ptr]) rfl ?_
  have e0 : mf [] = fun _ => none := by funext kl; cases kl <;> rfl
  refine ⟨w.heap.size + 1, w.heap.size, rfl, ⟨?_, by rw [e0]; exact (mapF_made w 9).alloc _, fun e he => (by simp at he), by simp, by omega, by simp [tot]; omega⟩, ((Below.refl _ w).alloc (Nat.le_refl _) _).alloc (by simp) _⟩
  have := va_new (w.alloc (.map #[] 0)) [.int .i64 (n : Int), .map (some w.heap.size), .bool true, .int .i64 0, .int .i64 0, .nilFunc] 73
  rw [World.size_alloc] at this
  exact this
/-- may a name be so? -/
def okc (c : UInt8) : Bool := (97 ≤ c && c ≤ 122) || (48 ≤ c && c ≤ 57)
def isNm (l : List UInt8) : Bool := decide (1 ≤ l.length) && decide (l.length ≤ 16) && l.all okc
theorem okc_iff (c : UInt8) : okc c = true ↔ (97 ≤ (c.toNat : Int) ∧ (c.toNat : Int) ≤ 122) ∨ (48 ≤ (c.toNat : Int) ∧ (c.toNat : Int) ≤ 57) := by
  unfold okc
  simp only [Bool.or_eq_true, Bool.and_eq_true, decide_eq_true_eq, UInt8.le_iff_toNat_le, UInt8.reduceToNat]
  omega
set_option maxRecDepth 100000 in
theorem isName_ok (s : ByteArray) (w : World) (hs : s.size ≤ 9223372036854775807) : Calls Tryz.prog 62 #[.string s] w fun e w' => e = .returned (.bool (isNm s.data.toList)) ∧ w' = w := by
  have hl : s.data.toList.length = s.size := by cases s; rfl
  by_cases h1 : s.size < 1
  · have e : isNm s.data.toList = false := by unfold isNm; rw [hl]; simp; omega
    have d : (s.size : Int) < 1 := by omega
    rw [e]
    go_enter Tryz.func62, Tryz.ntmps62
    go_wp2
    go_ret
    exact ⟨rfl, rfl⟩
  · by_cases h2 : 16 < s.size
    · have e : isNm s.data.toList = false := by unfold isNm; rw [hl]; simp; omega
      have d : 1 ≤ (s.size : Int) := by omega
      have d2 : 16 < (s.size : Int) := by omega
      rw [e]
      go_enter Tryz.func62, Tryz.ntmps62
      go_wp2
      go_ret
      exact ⟨rfl, rfl⟩
    · have d : 1 ≤ (s.size : Int) := by omega
      have d2 : (s.size : Int) ≤ 16 := by omega
      have hfin : isNm s.data.toList = s.data.toList.all okc := by unfold isNm; rw [hl, decide_eq_true (by omega), decide_eq_true (by omega)]; rfl
      obtain ⟨R, hR⟩ : ∃ R, R = s.data.toList.all okc := ⟨_, rfl⟩
      rw [hfin, ← hR]
      have HR := (show Hid _ from hR)
      clear hR
      have HL := (show Hid _ from hl)
      clear hl hfin
      go_enter Tryz.func62, Tryz.ntmps62
      go_wp2
      go_loop [15] (fun i => ∃ k : Nat, k ≤ s.size ∧ i = .int .i64 (k : Int) ∧ Hid (∀ c ∈ s.data.toList.take k, okc c = true)) (fun i => (s.size - intOf i).toNat)
      case atStart => exact ⟨0, Nat.zero_le _, rfl, fun c hc => by simp at hc⟩
      case round =>
        obtain ⟨k, hk, rfl, hc⟩ := hrel
        by_cases hlt : k < s.size
        · obtain ⟨c, hcc⟩ : ∃ c, c = s[k]'hlt := ⟨_, rfl⟩
          have hx : s.data.toList[k]? = some c := by rw [Array.getElem?_toList, hcc]; exact Array.getElem?_eq_getElem hlt
          have hidx : (Instr.index 9 (.string s) (.int .i64 (k : Int))).run Tryz.prog w = .ok (.int .u8 (c.toNat : Int)) w := by
            rw [run_index_string w 9 s .i64 (k : Int) Tryz.underlying9, dif_pos (by omega), hcc]
            simp
          have HX := (show Hid _ from hx)
          have HOK := (show Hid _ from okc_iff c)
          have dk : (k : Int) < (s.size : Int) := by omega
          clear hx hcc
          generalize hC : (c.toNat : Int) = C at *
          have good : (okc c = true) → ∀ x ∈ s.data.toList.take (k + 1), okc x = true := fun ho x hx => by
            rw [List.take_add_one, HX.out] at hx
            rcases List.mem_append.1 hx with hx | hx
            · exact hc.out x hx
            · simp at hx; rw [hx]; exact ho
          have bad : (okc c = false) → s.data.toList.all okc = false := fun ho => by
            rw [List.all_eq_false]
            exact ⟨c, List.mem_of_getElem? HX.out, by simp [ho]⟩
          have HG := (show Hid _ from good)
          have HB := (show Hid _ from bad)
          clear good bad
          by_cases c1 : 97 ≤ C
          · by_cases c2 : C ≤ 122
            · go_wp2
              go_round
              case rel => exact ⟨k + 1, hlt, by simp, HG.out (HOK.out.2 (.inl ⟨c1, c2⟩))⟩
              case measure => simp [intOf]; omega
            · have c3 : 48 ≤ C := by omega
              have c4 : ¬ C ≤ 57 := by omega
              have ho : okc c = false := by
                rcases hh : okc c with _ | _
                · rfl
                · have := HOK.out.1 hh; omega
              go_wp2
              go_ret
              exact ⟨by rw [HR.out, HB.out ho]; rfl, rfl⟩
          · by_cases c2 : 48 ≤ C
            · by_cases c3 : C ≤ 57
              · go_wp2
                go_round
                case rel => exact ⟨k + 1, hlt, by simp, HG.out (HOK.out.2 (.inr ⟨c2, c3⟩))⟩
                case measure => simp [intOf]; omega
              · have ho : okc c = false := by
                  rcases hh : okc c with _ | _
                  · rfl
                  · have := HOK.out.1 hh; omega
                go_wp2
                go_ret
                exact ⟨by rw [HR.out, HB.out ho]; rfl, rfl⟩
            · have ho : okc c = false := by
                rcases hh : okc c with _ | _
                · rfl
                · have := HOK.out.1 hh; omega
              go_wp2
              go_ret
              exact ⟨by rw [HR.out, HB.out ho]; rfl, rfl⟩
        · obtain rfl : k = s.size := by omega
          have e : s.data.toList.all okc = true := List.all_eq_true.2 (by have := hc.out; rwa [← HL.out, List.take_length] at this)
          have HE := (show Hid _ from e)
          clear e
          go_wp2
          go_ret
          exact ⟨by rw [HR.out, HE.out]; rfl, rfl⟩
end Go.Proofs.YtgabklihgjjjeaaGreatDoor
/- disk VII: how many files there are; fits; find. -/
namespace Go.Proofs.YtgabklihgjjjeaaGreatDoor
open Go.RowKit Go.Shelf Go.Maps pk
open Go.WideElems (Fit rd rg pl rd_key rd_val rg_of other_key)
set_option linter.unusedVariables false

def lits (es : List Ent) : List Lit := es.map fun e => .string e.nm
theorem fd_mem {es : List Ent} {l : List UInt8} {e : Ent} (h : fd es l = some e) : e ∈ es ∧ e.nm = l := by
  unfold fd at h
  exact ⟨List.mem_of_find?_eq_some h, by simpa using List.find?_some h⟩
theorem mf_some {es : List Ent} {kl : Lit} {c : Value} (h : mf es kl = some c) : ∃ e, e ∈ es ∧ kl = .string e.nm ∧ c = ptr e.q ∧ fd es e.nm = some e := by
  cases kl with
  | string l =>
    obtain ⟨e, h1, h2⟩ := Option.map_eq_some_iff.1 h
    obtain ⟨h3, rfl⟩ := fd_mem h1
    exact ⟨e, h3, rfl, h2.symm, h1⟩
  | _ => cases h
theorem fd_of {es : List Ent} (hp : es.Pairwise Apart) {e : Ent} (he : e ∈ es) : fd es e.nm = some e := by
  induction es with
  | nil => cases he
  | cons a es ih =>
    obtain ⟨h1, h2⟩ := List.pairwise_cons.1 hp
    unfold fd
    rw [List.find?_cons]
    rcases List.mem_cons.1 he with rfl | he
    · simp
    · have : (a.nm == e.nm) = false := by simpa using (h1 e he).1
      rw [this]
      exact ih h2 he
theorem nm_key {l : List UInt8} (h : l.length ≤ 16) : keyOf Tryz.prog 9 (.string ⟨l.toArray⟩) = some (.string l) := by
  have := keyS (s := ⟨l.toArray⟩) (by show l.toArray.size ≤ _; simp; omega)
  simpa using this
/-- a map of files has as many entries as there are files -/
theorem MapF.lenS {w : World} {b n : Nat} {es : List Ent} (h : MapF w 9 b n (mf es)) (hp : es.Pairwise Apart) (hn : ∀ e ∈ es, e.nm.length ≤ 16) : ∃ D : DataW Value, w.ownsMap Tryz.prog 9 heldR b n D ∧ Maps.size D = es.length := by
  obtain ⟨D, ho, hf⟩ := h
  refine ⟨D, ho, ?_⟩
  obtain ⟨ms, clock, hb, F, hs, rfl⟩ := ho
  have h1 := Maps.fit_apart keyedS F
  have hin : ∀ kl, Maps.has (.map ((ms.toList.map (rg Tryz.prog 9 heldR)).foldr DataW.insert [])) kl = true ↔ kl ∈ (ms.toList.map (rg Tryz.prog 9 heldR)).map (·.1) := fun kl => by
    constructor
    · intro hh
      obtain ⟨p, hp, hk⟩ := List.any_eq_true.1 hh
      rw [← WideAt.sameKey_eq hk]
      exact List.mem_map.2 ⟨p, mem_sorted.1 hp, rfl⟩
    · intro hh
      obtain ⟨p, hp, rfl⟩ := List.mem_map.1 hh
      obtain ⟨e, he, rfl⟩ := List.mem_map.1 hp
      obtain ⟨y, hy⟩ := F.reads e he
      refine List.any_eq_true.2 ⟨rg Tryz.prog 9 heldR e, mem_sorted.2 (List.mem_map.2 ⟨e, he, rfl⟩), ?_⟩
      rw [rg_of hy]
      exact WideAt.sameKey_self (keyedS.key (rd_key hy))
  have hsz : Maps.size (.map ((ms.toList.map (rg Tryz.prog 9 heldR)).foldr DataW.insert [])) = ((ms.toList.map (rg Tryz.prog 9 heldR)).map (·.1)).length := by
    simp [Maps.size, length_sorted]
  rw [hsz]
  have hll : (lits es).length = es.length := by simp [lits]
  rw [← hll]
  refine Nat.le_antisymm (pig _ _ (List.pairwise_map.2 h1) (fun kl hk => ?_)) (pig _ _ ?_ (fun kl hk => ?_))
  · obtain ⟨p, hp', rfl⟩ := List.mem_map.1 hk
    obtain ⟨e, he, rfl⟩ := List.mem_map.1 hp'
    obtain ⟨y, hy⟩ := F.reads e he
    have := (hin _).2 hk
    rw [rg_of hy] at this ⊢
    rw [(hf _ _ (rd_key hy)).1] at this
    obtain ⟨c, hc⟩ := Option.isSome_iff_exists.1 this
    obtain ⟨e', h3, h4, _⟩ := mf_some hc
    exact List.mem_map.2 ⟨e', h3, h4.symm⟩
  · exact List.pairwise_map.2 (hp.imp (fun h e => h.1 (by injection e)))
  · obtain ⟨e, he, rfl⟩ := List.mem_map.1 hk
    refine (hin _).1 ?_
    rw [(hf _ _ (nm_key (hn e he))).1]
    show ((fd es e.nm).map _).isSome = true
    rw [fd_of hp he]
    rfl
theorem Dsk.lenRun {w : World} {B p m : Nat} {x : DK} (h : Dsk w B p m x) : (Builtin.len_ #[71] 3 #[.map (some m)]).run Tryz.prog w = .ok (.int .i64 x.es.length) w := by
  obtain ⟨D, h1, h2⟩ := MapF.lenS h.mp h.ap (fun e he => (h.fil e he).nm)
  rw [← h2]
  exact h1.len Tryz.underlying71 _
theorem zeroF (w : World) : (zeroValue 76).run Tryz.prog w = .ok (.pointer none) w := Tryz.zeroValue76 w
theorem Dsk.look {w : World} {B p m : Nat} {x : DK} (h : Dsk w B p m x) {s : ByteArray} (hs : s.size ≤ 1048576) : (Instr.lookup 71 (.map (some m)) (.string s) false).run Tryz.prog w = .ok (((fd x.es s.data.toList).map fun e => ptr e.q).getD (.pointer none)) w :=
  h.mp.look keyedS Tryz.underlying71 (zeroF w) (keyS hs)
/-- the sectors of the files that are still to come -/
def rem (left : Lit → Bool) : List Ent → Nat
  | [] => 0
  | e :: es => (if left (.string e.nm) then e.ss.length else 0) + rem left es
theorem rem_none {left : Lit → Bool} (h : ∀ kl, left kl = false) (es : List Ent) : rem left es = 0 := by
  induction es with
  | nil => rfl
  | cons e es ih => simp [rem, h, ih]
theorem rem_all {left : Lit → Bool} {es : List Ent} (h : ∀ e ∈ es, left (.string e.nm) = true) : rem left es = tot es := by
  induction es with
  | nil => rfl
  | cons e es ih => simp [rem, tot, h e (List.mem_cons_self ..), ih (fun a ha => h a (List.mem_cons_of_mem _ ha))]
theorem rem_same {left : Lit → Bool} {l : List UInt8} {es : List Ent} (h : ∀ e ∈ es, e.nm ≠ l) : rem (fun z => left z && !z.sameKey (.string l)) es = rem left es := by
  induction es with
  | nil => rfl
  | cons e es ih =>
    have : (Lit.string e.nm).sameKey (.string l) = false := by
      cases hh : (Lit.string e.nm).sameKey (.string l)
      · rfl
      · have := WideAt.sameKey_eq hh
        injection this with this
        exact absurd this (h e (List.mem_cons_self ..))
    simp only [rem, this, Bool.not_false, Bool.and_true]
    rw [ih (fun a ha => h a (List.mem_cons_of_mem _ ha))]
theorem rem_step {left : Lit → Bool} {es : List Ent} (hp : es.Pairwise Apart) {e : Ent} (he : e ∈ es) (hl : left (.string e.nm) = true) (hk : (Lit.string e.nm).sameKey (.string e.nm) = true) : rem left es = rem (fun z => left z && !z.sameKey (.string e.nm)) es + e.ss.length := by
  induction es with
  | nil => cases he
  | cons a es ih =>
    obtain ⟨h1, h2⟩ := List.pairwise_cons.1 hp
    rcases List.mem_cons.1 he with rfl | he
    · simp only [rem, hl, hk, Bool.not_true, Bool.and_false]
      rw [rem_same (fun b hb => (h1 b hb).1.symm)]
      simp
      omega
    · have : (Lit.string a.nm).sameKey (.string e.nm) = false := by
        cases hh : (Lit.string a.nm).sameKey (.string e.nm)
        · rfl
        · have := WideAt.sameKey_eq hh
          injection this with this
          exact absurd this (h1 e he).1
      simp only [rem, this, Bool.not_false, Bool.and_true]
      rw [ih h2 he]
      omega
end Go.Proofs.YtgabklihgjjjeaaGreatDoor
/- disk VIII: find; fits. -/
namespace Go.Proofs.YtgabklihgjjjeaaGreatDoor
open Go.RowKit Go.Shelf Go.Maps pk
set_option linter.unusedVariables false

theorem find_bad (w : World) (v : Value) (s : ByteArray) (hs : s.size ≤ 1048576) (hn : isNm s.data.toList = false) :
    Calls Tryz.prog 37 #[v, .string s] w fun e w' => e = .returned (.tuple #[.pointer none, .int .i64 1]) ∧ w' = w := by
  have HC := (show Hid _ from fun w => isName_ok s w (by omega))
  go_enter Tryz.func37, Tryz.ntmps37
  go_wp2_with (go_at_call 62; refine (HC.out _).mono ?_; rintro e w' ⟨rfl, rfl⟩; rw [hn])
  refine bodyPost_ret (v := .tuple #[.pointer none, .int .i64 1]) (by simp [results, Tryz.results37, go_sem]) rfl ?_
  exact ⟨rfl, rfl⟩
theorem find_none (w : World) (B p m : Nat) (x : DK) (h : Dsk w B p m x) (s : ByteArray) (hs : s.size ≤ 1048576) (hn : isNm s.data.toList = true) (hf : fd x.es s.data.toList = none) :
    Calls Tryz.prog 37 #[ptr p, .string s] w fun e w' => e = .returned (.tuple #[.pointer none, .int .i64 7]) ∧ w' = w := by
  have HC := (show Hid _ from fun w => isName_ok s w (by omega))
  have y := h.va.cell 1 (v := .map (some m)) rfl
  have hlk := h.look hs
  rw [hf] at hlk
  simp only [Option.map_none, Option.getD_none] at hlk
  clear h
  unfold ptr
  go_enter Tryz.func37, Tryz.ntmps37
  go_wp2_with (go_at_call 62; refine (HC.out _).mono ?_; rintro e w' ⟨rfl, rfl⟩; rw [hn])
  refine bodyPost_ret (v := .tuple #[.pointer none, .int .i64 7]) (by simp [results, Tryz.results37, go_sem]) rfl ?_
  exact ⟨rfl, rfl⟩
theorem find_some (w : World) (B p m : Nat) (x : DK) (h : Dsk w B p m x) (s : ByteArray) (hs : s.size ≤ 1048576) (hn : isNm s.data.toList = true) (f : Ent) (hf : fd x.es s.data.toList = some f) :
    Calls Tryz.prog 37 #[ptr p, .string s] w fun e w' => e = .returned (.tuple #[ptr f.q, .int .i64 0]) ∧ w' = w := by
  have HC := (show Hid _ from fun w => isName_ok s w (by omega))
  have y := h.va.cell 1 (v := .map (some m)) rfl
  have hlk := h.look hs
  rw [hf] at hlk
  simp only [Option.map_some, Option.getD_some] at hlk
  clear h
  unfold ptr at *
  go_enter Tryz.func37, Tryz.ntmps37
  go_wp2_with (go_at_call 62; refine (HC.out _).mono ?_; rintro e w' ⟨rfl, rfl⟩; rw [hn])
  refine bodyPost_ret (v := .tuple #[.pointer (some ⟨f.q, 0, none⟩), .int .i64 0]) (by simp [results, Tryz.results37, go_sem]) rfl ?_
  exact ⟨rfl, rfl⟩
theorem rem_le (left : Lit → Bool) (es : List Ent) : rem left es ≤ tot es := by
  induction es with
  | nil => exact Nat.le_refl _
  | cons e es ih => simp only [rem, tot]; split <;> omega
/-- is there room? -/
def fit (x : DK) (l : List UInt8) (k : Nat) : Bool := !((fd x.es l).isNone && decide (x.es.length = 64)) && decide (k ≤ x.room - tot x.es)
set_option maxRecDepth 100000 in
theorem fits_ok (w : World) (B p m : Nat) (x : DK) (h : Dsk w B p m x) (s : ByteArray) (hs : s.size ≤ 1048576) (v : Value) (bs : List Nat) (hb : Bs w v bs) (hl : bs.length ≤ 140737488355328) :
    Calls Tryz.prog 69 #[ptr p, .string s, v] w fun e w' => e = .returned (.bool (fit x s.data.toList (cnt bs.length))) ∧ Below w.heap.size w w' := by
  have y0 := h.va.cell 0 (v := .int .i64 x.room) rfl
  have y := h.va.cell 1 (v := .map (some m)) rfl
  have hlk := h.look hs
  have hln := h.lenRun
  have HH := (show Hid _ from h)
  have HBV := (show Hid _ from hb)
  have hpl := h.va.lt
  have hlim := h.fits
  unfold ptr
  clear h hb
  by_cases hfull : fd x.es s.data.toList = none ∧ x.es.length = 64
  · rw [hfull.1] at hlk
    rw [hfull.2] at hln
    simp only [Option.map_none, Option.getD_none] at hlk
    go_enter Tryz.func69, Tryz.ntmps69
    go_wp2_with fail
    go_ret
    exact ⟨by unfold fit; rw [hfull.1, hfull.2]; rfl, Below.refl _ _⟩
  · have hfit : fit x s.data.toList (cnt bs.length) = decide (cnt bs.length ≤ x.room - tot x.es) := by
      unfold fit
      cases hf : fd x.es s.data.toList with
      | none =>
        have : ¬ x.es.length = 64 := fun e => hfull ⟨hf, e⟩
        simp [this]
      | some e => simp
    rw [hfit]
    clear hfit
    have HM := (show Hid _ from HH.out.mp)
    cases hf : fd x.es s.data.toList with
    | none =>
      rw [hf] at hlk
      simp only [Option.map_none, Option.getD_none] at hlk
      have hne : ((x.es.length : Int) == 64) = false := by
        cases hh : ((x.es.length : Int) == 64)
        · rfl
        · exact absurd ⟨hf, by have := beq_iff_eq.1 hh; omega⟩ hfull
      have hne2 : decide ((x.es.length : Int) = 64) = false := decide_eq_false (fun e => hfull ⟨hf, by omega⟩)
      have hne3 : decide (x.es.length = 64) = false := decide_eq_false (fun e => hfull ⟨hf, e⟩)
      clear hf hfull
      go_enter Tryz.func69, Tryz.ntmps69
      go_wp2_with (at_range; refine rgM rfl _ 71 rfl 9 76 keyedS Tryz.underlying71 m x.es.length (mf x.es) (by rfl) HM.out ?_; intro w1 left cn r1 l1 b1)
      go_frame
      have R1 : Hid (RanF w1 9 m w.heap.size x.es.length (mf x.es) left cn) := r1
      have L1 : Hid (x.room + tot x.es = x.room + rem left x.es) := by
        show x.room + tot x.es = x.room + rem left x.es
        rw [rem_all (fun e he => ?_)]
        rw [l1 _ _ (nm_key (HH.out.fil e he).nm)]
        show ((fd x.es e.nm).map _).isSome = true
        rw [fd_of HH.out.ap he]
        rfl
      have HB1 : Hid (Below w.heap.size w w1) := b1
      have HML : Hid (m < w.heap.size) := HH.out.mp.lt
      clear r1 l1 b1 HM
      generalize hr : w.heap.size = r at *
      go_loopw [7] (fun i wx => ∃ (left : Lit → Bool) (cn f : Nat), i = .int .i64 (f : Int) ∧ Hid (f + tot x.es = x.room + rem left x.es) ∧ Hid (RanF wx 9 m r x.es.length (mf x.es) left cn) ∧ Hid (Below r w wx)) (fun _ wx => wx.rangeLeft m r)
      case atStart => exact ⟨left, cn, x.room, rfl, L1.out, R1.out, HB1.out⟩
      case round =>
        obtain ⟨left, cn, f, rfl, L, R, HBx⟩ := hrel
        go_wp2_with (at_next; refine nxM rfl _ rfl 9 keyedS m r x.es.length (mf x.es) left cn (by rfl) R.out ?_ ?_)
        · intro hl0
          have hf0 := L.out
          rw [rem_none hl0] at hf0
          have HBS2 : Hid (Bs wr v bs) := HBV.out.step (hr ▸ HBx.out)
          have HF0 : Hid (f = x.room - tot x.es) := (show f = x.room - tot x.es by omega)
          clear hf0
          go_wp2_with (go_at_call 88; refine (needed_ok v bs _ HBS2.out hl).mono ?_; rintro e w' ⟨rfl, rfl⟩)
          go_ret
          refine ⟨?_, by rw [hr]; exact HBx.out⟩
          rw [← HF0.out]
          simp
        · intro xk c kl w2 cn2 hkey hlk2 hc R2 hlt U2 hen
          obtain ⟨e, he, rfl, rfl, _⟩ := mf_some hc
          have HR2 : Hid (RanF w2 9 m r x.es.length (mf x.es) _ cn2) := R2
          have HB2 : Hid (Below r w w2) := HBx.out.trans (U2.below (by have := HBx.out.size; omega) (fun i (hi : i = r) => by omega))
          have HMS : Hid (w2.rangeLeft m r = cn2 ∧ wr.rangeLeft m r = cn ∧ cn2 < cn) := ⟨R2.left_eq, R.out.left_eq, hlt⟩
          have HST : Hid (rem left x.es = rem (fun z => left z && !z.sameKey (.string e.nm)) x.es + e.ss.length) := rem_step HH.out.ap he hlk2 (WideAt.sameKey_self (keyedS.key hkey))
          have F2 := (HH.out.step (hr ▸ HB2.out)).fil e he
          obtain ⟨a, cp, hv, hcp, hcm⟩ := F2.row.form
          have z := F2.blk.cell 0 (v := e.v) rfl
          rw [hv] at z
          have dl : e.ss.length ≤ f := by
            have h1 := L.out
            have h2 := HST.out
            have h3 := HH.out.fits.1
            omega
          have dI : (0 : Int) ≤ (f : Int) - (e.ss.length : Int) := by omega
          have dJ : (f : Int) ≤ 65536 := by
            have h1 := L.out
            have h3 := HH.out.fits
            have h4 : rem left x.es ≤ tot x.es := rem_le _ _
            omega
          have HD := (show Hid _ from dl)
          unfold ptr at hen ⊢
          clear R2 U2 hc hlt F2 dl hlk2
          go_wp2_with fail
          go_roundw
          case rel => exact ⟨_, cn2, f - e.ss.length, by congr 1; have := HD.out; omega, by show _ = _; have h1 := L.out; have h2 := HST.out; have h3 := HD.out; omega, HR2.out, HB2.out⟩
          case measure => have := HMS.out; omega
    | some e0 =>
      rw [hf] at hlk
      simp only [Option.map_some, Option.getD_some] at hlk
      unfold ptr at hlk
      clear hf hfull hln
      go_enter Tryz.func69, Tryz.ntmps69
      go_wp2_with (at_range; refine rgM rfl _ 71 rfl 9 76 keyedS Tryz.underlying71 m x.es.length (mf x.es) (by rfl) HM.out ?_; intro w1 left cn r1 l1 b1)
      go_frame
      have R1 : Hid (RanF w1 9 m w.heap.size x.es.length (mf x.es) left cn) := r1
      have L1 : Hid (x.room + tot x.es = x.room + rem left x.es) := by
        show x.room + tot x.es = x.room + rem left x.es
        rw [rem_all (fun e he => ?_)]
        rw [l1 _ _ (nm_key (HH.out.fil e he).nm)]
        show ((fd x.es e.nm).map _).isSome = true
        rw [fd_of HH.out.ap he]
        rfl
      have HB1 : Hid (Below w.heap.size w w1) := b1
      have HML : Hid (m < w.heap.size) := HH.out.mp.lt
      clear r1 l1 b1 HM
      generalize hr : w.heap.size = r at *
      go_loopw [7] (fun i wx => ∃ (left : Lit → Bool) (cn f : Nat), i = .int .i64 (f : Int) ∧ Hid (f + tot x.es = x.room + rem left x.es) ∧ Hid (RanF wx 9 m r x.es.length (mf x.es) left cn) ∧ Hid (Below r w wx)) (fun _ wx => wx.rangeLeft m r)
      case atStart => exact ⟨left, cn, x.room, rfl, L1.out, R1.out, HB1.out⟩
      case round =>
        obtain ⟨left, cn, f, rfl, L, R, HBx⟩ := hrel
        go_wp2_with (at_next; refine nxM rfl _ rfl 9 keyedS m r x.es.length (mf x.es) left cn (by rfl) R.out ?_ ?_)
        · intro hl0
          have hf0 := L.out
          rw [rem_none hl0] at hf0
          have HBS2 : Hid (Bs wr v bs) := HBV.out.step (hr ▸ HBx.out)
          have HF0 : Hid (f = x.room - tot x.es) := (show f = x.room - tot x.es by omega)
          clear hf0
          go_wp2_with (go_at_call 88; refine (needed_ok v bs _ HBS2.out hl).mono ?_; rintro e w' ⟨rfl, rfl⟩)
          go_ret
          refine ⟨?_, by rw [hr]; exact HBx.out⟩
          rw [← HF0.out]
          simp
        · intro xk c kl w2 cn2 hkey hlk2 hc R2 hlt U2 hen
          obtain ⟨e, he, rfl, rfl, _⟩ := mf_some hc
          have HR2 : Hid (RanF w2 9 m r x.es.length (mf x.es) _ cn2) := R2
          have HB2 : Hid (Below r w w2) := HBx.out.trans (U2.below (by have := HBx.out.size; omega) (fun i (hi : i = r) => by omega))
          have HMS : Hid (w2.rangeLeft m r = cn2 ∧ wr.rangeLeft m r = cn ∧ cn2 < cn) := ⟨R2.left_eq, R.out.left_eq, hlt⟩
          have HST : Hid (rem left x.es = rem (fun z => left z && !z.sameKey (.string e.nm)) x.es + e.ss.length) := rem_step HH.out.ap he hlk2 (WideAt.sameKey_self (keyedS.key hkey))
          have F2 := (HH.out.step (hr ▸ HB2.out)).fil e he
          obtain ⟨a, cp, hv, hcp, hcm⟩ := F2.row.form
          have z := F2.blk.cell 0 (v := e.v) rfl
          rw [hv] at z
          have dl : e.ss.length ≤ f := by
            have h1 := L.out
            have h2 := HST.out
            have h3 := HH.out.fits.1
            omega
          have dI : (0 : Int) ≤ (f : Int) - (e.ss.length : Int) := by omega
          have dJ : (f : Int) ≤ 65536 := by
            have h1 := L.out
            have h3 := HH.out.fits
            have h4 : rem left x.es ≤ tot x.es := rem_le _ _
            omega
          have HD := (show Hid _ from dl)
          unfold ptr at hen ⊢
          clear R2 U2 hc hlt F2 dl hlk2
          go_wp2_with fail
          go_roundw
          case rel => exact ⟨_, cn2, f - e.ss.length, by congr 1; have := HD.out; omega, by show _ = _; have h1 := L.out; have h2 := HST.out; have h3 := HD.out; omega, HR2.out, HB2.out⟩
          case measure => have := HMS.out; omega
end Go.Proofs.YtgabklihgjjjeaaGreatDoor
