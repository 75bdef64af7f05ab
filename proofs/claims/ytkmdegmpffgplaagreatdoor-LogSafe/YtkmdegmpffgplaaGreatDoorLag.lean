/- parts I: slices.Chunk over bytes, by 24 at a time. -/
import Derived.Test.YtkmdegmpffgplaaGreatDoorLaf
namespace Go.Proofs.YtkmdegmpffgplaaGreatDoor
open Go.RowKit Go.Shelf pk
set_option linter.unusedVariables false
attribute [local go_sem] Oper.semAt_some

/-- how many parts there are -/
def cn4 (len : Nat) : Nat := (len + 23) / 24
/-- the x-th part, as it is handed out -/
def enc4 (b off len : Nat) (x : Nat) : Array Value := #[.slice (some ⟨b, off + 24 * x, none⟩) (min 24 (len - 24 * x)) (min 24 (len - 24 * x))]
set_option maxRecDepth 100000 in
set_option maxHeartbeats 2000000 in
theorem chunk1_4 (n : Nat) (hn : 1 ≤ n) (l B1 B2 b off len cap : Nat) (sa : Option Addr) (hsa : 0 < len → sa = some ⟨b, off, none⟩) (hcap : len ≤ cap ∧ cap ≤ 9223372036854775807 ∧ len ≤ 140737488355328) (J Jx : List Nat → World → Prop)
    (hY : ∀ pre x W, J pre W → pre.length < cn4 len → YieldAt Fence.wide (n - 1) Tryz.prog l (enc4 b off len x) W fun e W' =>
      (e = .returned (.bool true) ∧ J (pre ++ [x]) W' ∧ KpC B1 B2 W W') ∨ (e = .returned (.bool false) ∧ Jx (pre ++ [x]) W'))
    (W : World) (hb1 : W.cell? ⟨B1, 0, none⟩ = some (.slice sa len cap)) (hb2 : W.cell? ⟨B2, 0, none⟩ = some (.int .i64 24)) (h0 : J [] W) (hJ : AbidesFrom W.heap.size J) :
    CallsIn Fence.wide n Tryz.prog 127 #[.func (.yield l) #[] #[], .pointer (some ⟨B1, 0, none⟩), .pointer (some ⟨B2, 0, none⟩)] W fun e W' => (∃ v, e = .returned v) ∧
      ((∃ ys, ys = List.range (cn4 len) ∧ J ys W') ∨ (∃ pre, True ∧ Jx pre W')) := by
  refine callsIn_of_wp Tryz.func127 rfl trivial ?_ rfl
  simp only [Tryz.ntmps127, List.size_toArray, List.length_cons, List.length_nil, Nat.reduceAdd, Nat.reduceSub, Array.replicate_succ, Array.replicate_zero, List.push_toArray, List.append_toArray, List.nil_append, List.cons_append]
  gi_wp2
  gi_loopw [4] (fun i wr => ∃ k : Nat, k ≤ cn4 len ∧ i = .int .i64 ((24 * k : Nat) : Int) ∧ Hid (J (List.range k) wr) ∧ wr.cell? ⟨B1, 0, none⟩ = some (.slice sa len cap) ∧ wr.cell? ⟨B2, 0, none⟩ = some (.int .i64 24))
    (fun i _ => (len + 24 - intOf i).toNat)
  case atStart => exact ⟨0, Nat.zero_le _, by simp, h0, hb1, hb2⟩
  case round =>
    obtain ⟨k, hk, rfl, hJs, y1, y2⟩ := hrel
    by_cases hlt : 24 * k < len
    · have hkc : k < cn4 len := by unfold cn4; omega
      obtain rfl := hsa (by omega)
      obtain ⟨i, hi⟩ : ∃ i, i = 24 * k := ⟨_, rfl⟩
      have HI : Hid (i = 24 * k) := hi
      rw [← hi] at hlt ⊢
      clear hi
      have d1 : (i : Int) < (len : Int) := by omega
      have d2 : (0 : Int) ≤ (i : Int) := by omega
      gi_wp2
      refine wpIn_wide.2 ?_
      go_region
      obtain ⟨m, hm⟩ : ∃ m, m = min 24 (len - i) := ⟨_, rfl⟩
      rw [show (if ((len - i : Nat) : Int) < 24 then ((len - i : Nat) : Int) else 24) = (m : Int) by split <;> omega]
      have hJd : J (List.range k) wr.drew := hJ _ _ _ none hJs.out ⟨rfl, rfl, rfl, Nat.le_refl _, fun _ _ _ => rfl⟩ (fun r e => by cases e)
      obtain ⟨fn, tmps, assign, body, hy, hR⟩ := hY _ k wr.drew hJd (by rw [List.length_range]; exact hkc)
      have HR := (show Hid _ from hR)
      unfold enc4 at hy
      rw [← HI.out, ← hm] at hy
      have z1 : wr.drew.cell? ⟨B1, 0, none⟩ = some (.slice (some ⟨b, off, none⟩) len cap) := y1
      have z2 : wr.drew.cell? ⟨B2, 0, none⟩ = some (.int .i64 24) := y2
      have d3 : (i : Int) + (m : Int) ≤ (len : Int) := by omega
      have d4 : (i : Int) + (m : Int) ≤ (cap : Int) := by omega
      have d5 : (0 : Int) < (m : Int) := by omega
      have d6 : 0 < m := by omega
      have HM : Hid (m = min 24 (len - i)) := hm
      clear hR hm hJd
      gi_wp2
      refine RoundIn.mono HR.out ?_
      rintro e W3 (⟨rfl, hJ3, hk3⟩ | ⟨rfl, hJx3⟩)
      · have HJ3 := (show Hid _ from hJ3)
        have x1 := hk3.1.trans z1
        have x2 := hk3.2.trans z2
        clear hJ3 hk3
        have d7 : (i : Int) + 24 ≤ 140737488355328 + 64 := by omega
        gi_wp2
        go_roundw
        case rel => exact ⟨k + 1, by omega, by have := HI.out; rw [this]; congr 1, by show J _ _; rw [List.range_succ]; exact HJ3.out, x1, x2⟩
        case measure => simp [intOf]; omega
      · have HJ3 := (show Hid _ from hJx3)
        clear hJx3
        gi_wp2
        refine bodyPost_ret (results_none rfl _ _ _) rfl ?_
        exact ⟨⟨_, rfl⟩, .inr ⟨_, trivial, HJ3.out⟩⟩
    · have hke : k = cn4 len := by unfold cn4 at hk ⊢; omega
      subst hke
      gi_wp2
      go_end0
      exact ⟨⟨_, rfl⟩, .inl ⟨_, rfl, hJs.out⟩⟩
theorem chunk_4 (n : Nat) (a : Option Addr) (len cap : Nat) (w : World) :
    CallsIn Fence.wide n Tryz.prog 106 #[.slice a len cap, .int .i64 24] w fun e w' => e = .returned (.func (.func 127) #[] #[.pointer (some ⟨w.heap.size, 0, none⟩), .pointer (some ⟨w.heap.size + 1, 0, none⟩)]) ∧ w' = (w.alloc (.cells #[.slice a len cap] 22)).alloc (.cells #[.int .i64 24] 3) := by
  refine callsIn_wide.2 ?_
  go_enter Tryz.func106, Tryz.ntmps106
  go_wp2
  go_ret
  exact ⟨rfl, rfl⟩
theorem stops_4 (n : Nat) (hn : 1 ≤ n) (B1 B2 b off len cap : Nat) (sa : Option Addr) (hsa : 0 < len → sa = some ⟨b, off, none⟩) (hcap : len ≤ cap ∧ cap ≤ 9223372036854775807 ∧ len ≤ 140737488355328) (w : World) (hb1 : w.cell? ⟨B1, 0, none⟩ = some (.slice sa len cap)) (hb2 : w.cell? ⟨B2, 0, none⟩ = some (.int .i64 24)) :
    SeqStopsK Fence.wide n Tryz.prog 127 #[.pointer (some ⟨B1, 0, none⟩), .pointer (some ⟨B2, 0, none⟩)] (enc4 b off len) (KpC B1 B2) (fun ys => ys = List.range (cn4 len)) (fun _ => True) (cn4 len) w := fun l J Jx W hW hJ _ hY h0 =>
  chunk1_4 n hn l B1 B2 b off len cap sa hsa hcap J Jx hY W ((hW.cell (p := ⟨B1, 0, none⟩) (World.block_lt_of_cell? w _ hb1)).trans hb1) ((hW.cell (p := ⟨B2, 0, none⟩) (World.block_lt_of_cell? w _ hb2)).trans hb2) h0 hJ
/-- the x-th part -/
def prt4 (bs : List Nat) (x : Nat) : List Nat := (bs.drop (24 * x)).take 24
theorem bs_prt4 {w : World} {b off len cap : Nat} {sa : Option Addr} {bs : List Nat} (h : Bs w (.slice sa len cap) bs) (hsa : 0 < len → sa = some ⟨b, off, none⟩) (x : Nat) : Bs w (.slice (some ⟨b, off + 24 * x, none⟩) (min 24 (len - 24 * x)) (min 24 (len - 24 * x))) (prt4 bs x) := by
  obtain ⟨hby, a, c, e, h1, h2, h3, h4⟩ := h
  cases e
  have hl : (prt4 bs x).length = min 24 (bs.length - 24 * x) := by unfold prt4; simp
  refine ⟨(hby.drop _).take _, some ⟨b, off + 24 * x, none⟩, min 24 (bs.length - 24 * x), by rw [hl], by omega, by omega, fun e => (by cases e), fun h0 => ?_⟩
  obtain ⟨b', off', e', hb, hx⟩ := h4 (by omega)
  rw [hsa (by omega)] at e'
  cases e'
  refine ⟨b, off + 24 * x, rfl, hb, fun k hk => ?_⟩
  rw [Nat.add_assoc, hx (24 * x + k) (by omega), prt4, bt_take _ _ _ (by omega), bt_drop]
end Go.Proofs.YtkmdegmpffgplaaGreatDoor
/- disk V: the disk in memory: its header, the map of its files, the files and their sectors; what a step leaves. -/
namespace Go.Proofs.YtkmdegmpffgplaaGreatDoor
open Go.RowKit Go.Shelf Go.Maps pk
set_option linter.unusedVariables false

/-- a file: its name, where it lies, its row of sectors, what they hold, how many are synced -/
structure Ent where
  nm : List UInt8
  q : Nat
  v : Value
  ss : List (List Nat)
  sy : Nat
/-- the file of that name -/
def fd (es : List Ent) (l : List UInt8) : Option Ent := es.find? (fun e => e.nm == l)
def ptr (q : Nat) : Value := .pointer (some ⟨q, 0, none⟩)
/-- what the map says -/
def mf (es : List Ent) : Lit → Option Value
  | .string l => (fd es l).map fun e => ptr e.q
  | _ => none
/-- two files have nothing in common -/
def Apart (a b : Ent) : Prop := a.nm ≠ b.nm ∧ a.q ≠ b.q ∧ ∀ g, a.v.ownBlock = some g → b.v.ownBlock ≠ some g
/-- how many sectors there are -/
def tot : List Ent → Nat
  | [] => 0
  | e :: es => e.ss.length + tot es
theorem tot_app (a b : List Ent) : tot (a ++ b) = tot a + tot b := by
  induction a with
  | nil => simp [tot]
  | cons e a ih => simp [tot, ih]; omega
/-- a file in memory -/
structure Fil (w : World) (B : Nat) (e : Ent) : Prop where
  blk : VA w e.q [e.v, .int .i64 e.sy] 116
  row : Own KS w B e.v e.ss
  lo : B ≤ e.q
  sy : e.sy ≤ e.ss.length
  byte : ∀ s ∈ e.ss, By s
  nm : e.nm.length ≤ 16
/-- a disk in plain numbers -/
structure DK where
  room : Nat
  ops : Nat
  left : Nat
  on : Bool
  und : Value
  es : List Ent
structure Dsk (w : World) (B p m : Nat) (x : DK) : Prop where
  va : VA w p [.int .i64 x.room, .map (some m), .bool x.on, .int .i64 x.ops, .int .i64 x.left, x.und] 106
  mp : MapF w 9 m x.es.length (mf x.es)
  fil : ∀ e ∈ x.es, Fil w B e
  ap : x.es.Pairwise Apart
  lo : B ≤ p ∧ B ≤ m
  fits : tot x.es ≤ x.room ∧ x.room ≤ 65536 ∧ x.es.length ≤ 64
theorem keyedS : Keyed Tryz.prog 9 := string_keyed Tryz.underlying9
theorem keyS {s : ByteArray} (h : s.size ≤ 1048576) : keyOf Tryz.prog 9 (.string s) = some (.string s.data.toList) := Go.WideMaps.keyOf_string_mk Tryz.underlying9 (by unfold maxLen; omega)
theorem Fil.step {w w' : World} {B : Nat} {e : Ent} (h : Fil w B e) (k : Below w.heap.size w w') : Fil w' B e := ⟨h.blk.step k, h.row.step k, h.lo, h.sy, h.byte, h.nm⟩
theorem Fil.but {X : Nat → Prop} {w w' : World} {B : Nat} {e : Ent} (h : Fil w B e) (k : But X w w') (hq : ¬ X e.q) (hv : ∀ g, e.v.ownBlock = some g → ¬ X g) : Fil w' B e := ⟨h.blk.but k hq, h.row.but k hv, h.lo, h.sy, h.byte, h.nm⟩
theorem Dsk.step {w w' : World} {B p m : Nat} {x : DK} (h : Dsk w B p m x) (k : Below w.heap.size w w') : Dsk w' B p m x := ⟨h.va.step k, h.mp.step k, fun e he => (h.fil e he).step k, h.ap, h.lo, h.fits⟩
/-- a row's block is one of sectors -/
theorem row_blk {w : World} {B : Nat} {v : Value} {ss : List (List Nat)} (h : Own KS w B v ss) {g : Nat} (hg : v.ownBlock = some g) : ∃ cs, w.heap[g]? = some (.cells cs 143 (0, 0)) := by
  rcases h.own.2 with ⟨rfl, _⟩ | ⟨q, cap, cur, rfl, _, hq, _⟩
  · cases hg
  · cases hg
    exact ⟨_, hq⟩
theorem map_blk {w : World} {k : TypeId} {b n : Nat} {f : Lit → Option Value} (h : MapF w k b n f) : ∃ es c, w.heap[b]? = some (.map es c) := by
  obtain ⟨D, ⟨es, clock, hb, _⟩, _⟩ := h
  exact ⟨es, clock, hb⟩
/-- blocks that a change of one file touches -/
def XF (e : Ent) (i : Nat) : Prop := i = e.q ∨ e.v.ownBlock = some i
/-- only blocks of one file changed: the disk is the one with that file -/
theorem Dsk.put {w w' : World} {B p m : Nat} {x : DK} (h : Dsk w B p m x) {l1 l2 : List Ent} {e e' : Ent} (hx : x.es = l1 ++ e :: l2) (k : But (XF e) w w') (hf : Fil w' B e') (hn : e'.nm = e.nm) (hq : e'.q = e.q)
    (hv : ∀ g, e'.v.ownBlock = some g → e.v.ownBlock = some g ∨ w.heap.size ≤ g) (ht : tot l1 + e'.ss.length + tot l2 ≤ x.room) : Dsk w' B p m { x with es := l1 ++ e' :: l2 } := by
  have he := h.fil e (by rw [hx]; simp)
  have hnx : ∀ i, XF e i → (∃ cs T, w.heap[i]? = some (Obj.cells cs T (0, 0)) ∧ (T = 116 ∨ T = 143)) := fun i hi => by
    rcases hi with rfl | hi
    · exact ⟨_, _, he.blk.blk, .inl rfl⟩
    · obtain ⟨cs, hc⟩ := row_blk he.row hi
      exact ⟨cs, _, hc, .inr rfl⟩
  have ap := h.ap
  rw [hx] at ap
  obtain ⟨a1, a2, a3⟩ := List.pairwise_append.1 ap
  obtain ⟨a4, a5⟩ := List.pairwise_cons.1 a2
  have hap : ∀ a, a ∈ l1 ∨ a ∈ l2 → a.q ≠ e.q ∧ (∀ g, a.v.ownBlock = some g → e.v.ownBlock ≠ some g) ∧ a.nm ≠ e.nm := fun a ha => by
    rcases ha with ha | ha
    · have := a3 a ha e (List.mem_cons_self ..)
      exact ⟨this.2.1, this.2.2, this.1⟩
    · have := a4 a ha
      exact ⟨this.2.1.symm, fun g hg e2 => this.2.2 g e2 hg, this.1.symm⟩
  have hmem : ∀ a, a ∈ l1 ∨ a ∈ l2 → a ∈ x.es := fun a ha => by rw [hx]; rcases ha with ha | ha <;> simp [ha]
  have hoth : ∀ a, a ∈ l1 ∨ a ∈ l2 → Fil w' B a := fun a ha => by
    have ha' := h.fil a (hmem a ha)
    refine ha'.but k (fun hX => ?_) (fun g hg hX => ?_)
    · rcases hX with hX | hX
      · exact (hap a ha).1 hX
      · obtain ⟨cs, hc⟩ := row_blk he.row hX
        rw [ha'.blk.blk] at hc
        cases hc
    · rcases hX with rfl | hX
      · obtain ⟨cs, hc⟩ := row_blk ha'.row hg
        rw [he.blk.blk] at hc
        cases hc
      · exact (hap a ha).2.1 g hg hX
  refine ⟨h.va.but k (fun hX => ?_), ?_, fun a ha => ?_, ?_, h.lo, ⟨?_, h.fits.2.1, ?_⟩⟩
  · obtain ⟨cs, T, hc, hT⟩ := hnx _ hX
    rw [h.va.blk] at hc
    cases hc
    rcases hT with hT | hT <;> cases hT
  · have hm := h.mp.but k (fun hX => by
      obtain ⟨cs, T, hc, hT⟩ := hnx _ hX
      obtain ⟨es, c, hm⟩ := map_blk h.mp
      rw [hm] at hc
      cases hc)
    have e1 : mf x.es = mf (l1 ++ e' :: l2) := by
      funext kl
      cases kl with
      | string l =>
        show (fd x.es l).map _ = (fd (l1 ++ e' :: l2) l).map _
        rw [hx]
        unfold fd
        rw [List.find?_append, List.find?_append]
        cases List.find? (fun e => e.nm == l) l1 with
        | some a => rfl
        | none =>
          simp only [Option.none_or, List.find?_cons, hn]
          cases (e.nm == l)
          · rfl
          · simp [hq]
      | _ => rfl
    rw [e1] at hm
    have e2 : x.es.length = (l1 ++ e' :: l2).length := by rw [hx]; simp
    rw [e2] at hm
    exact hm
  · rcases List.mem_append.1 ha with ha | ha
    · exact hoth a (.inl ha)
    · rcases List.mem_cons.1 ha with rfl | ha
      · exact hf
      · exact hoth a (.inr ha)
  · have hlt : ∀ a, a ∈ l1 ∨ a ∈ l2 → ∀ g, a.v.ownBlock = some g → e'.v.ownBlock ≠ some g := fun a ha g hg hg' => by
      rcases hv g hg' with h1 | h1
      · exact (hap a ha).2.1 g hg h1
      · have := (h.fil a (hmem a ha)).row.lt g hg
        omega
    refine List.pairwise_append.2 ⟨a1, List.pairwise_cons.2 ⟨fun b hb => ?_, a5⟩, fun a ha b hb => ?_⟩
    · exact ⟨by rw [hn]; exact (a4 b hb).1, by rw [hq]; exact (a4 b hb).2.1, fun g hg hg' => hlt b (.inr hb) g hg' hg⟩
    · rcases List.mem_cons.1 hb with rfl | hb
      · exact ⟨by rw [hn]; exact (hap a (.inl ha)).2.2, by rw [hq]; exact (hap a (.inl ha)).1, hlt a (.inl ha)⟩
      · exact a3 a ha b (List.mem_cons_of_mem _ hb)
  · rw [tot_app]
    simp only [tot]
    omega
  · have := h.fits.2.2
    rw [hx] at this
    simpa using this
/-- the header alone changed -/
theorem Dsk.head {w w' : World} {B p m : Nat} {x : DK} (h : Dsk w B p m x) (k : Upd p w w') (ops left : Nat) (on : Bool) (u : Value)
    (hv : VA w' p [.int .i64 x.room, .map (some m), .bool on, .int .i64 ops, .int .i64 left, u] 106) : Dsk w' B p m { x with ops := ops, left := left, on := on, und := u } := by
  refine ⟨hv, h.mp.but k.but (fun hX => ?_), fun e he => (h.fil e he).but k.but (fun hX => ?_) (fun g hg hX => ?_), h.ap, h.lo, h.fits⟩
  · obtain ⟨es, c, hm⟩ := map_blk h.mp
    rw [hX, h.va.blk] at hm
    cases hm
  · have := (h.fil e he).blk.blk
    rw [hX, h.va.blk] at this
    injection this with this
    injection this with _ hT _
    cases hT
  · obtain ⟨cs, hc⟩ := row_blk (h.fil e he).row hg
    rw [hX, h.va.blk] at hc
    cases hc
theorem fd_split {es : List Ent} {l : List UInt8} {e : Ent} (h : fd es l = some e) : ∃ l1 l2, es = l1 ++ e :: l2 ∧ e.nm = l ∧ fd l1 l = none := by
  unfold fd at h ⊢
  obtain ⟨h1, l1, l2, h2, h3⟩ := List.find?_eq_some_iff_append.1 h
  exact ⟨l1, l2, h2, by simpa using h1, by simpa using h3⟩
end Go.Proofs.YtkmdegmpffgplaaGreatDoor
/- disk VI: the small functions: New, begin, On, Ops, Arm, needed, isName. -/
namespace Go.Proofs.YtkmdegmpffgplaaGreatDoor
open Go.RowKit Go.Shelf Go.Maps pk
set_option linter.unusedVariables false

theorem needed_ok (v : Value) (bs : List Nat) (w : World) (h : Bs w v bs) (hl : bs.length ≤ 140737488355328) :
    Calls Tryz.prog 81 #[v] w fun e w' => e = .returned (.int .i64 (cnt bs.length : Nat)) ∧ w' = w := by
  obtain ⟨hby, a, c, rfl, h1, h2, h3, h4⟩ := h
  clear h4 h3
  generalize hn : bs.length = len at *
  clear hn hby
  by_cases h0 : len % 32 = 0
  · have d1 : (len : Int) % 32 = 0 := by omega
    have d2 : ((cnt len : Nat) : Int) = (len : Int) / 32 := by unfold cnt; omega
    rw [d2]
    clear d2
    go_enter Tryz.func81, Tryz.ntmps81
    go_wp2
    go_ret
    exact ⟨rfl, rfl⟩
  · have d1 : 0 < (len : Int) % 32 := by omega
    have d2 : ((cnt len : Nat) : Int) = (len : Int) / 32 + 1 := by unfold cnt; omega
    have d3 : (len : Int) / 32 + 1 ≤ 140737488355328 := by omega
    rw [d2]
    clear d2
    go_enter Tryz.func81, Tryz.ntmps81
    go_wp2
    go_ret
    exact ⟨rfl, rfl⟩
theorem on_ok (w : World) (B p m : Nat) (x : DK) (h : Dsk w B p m x) : Calls Tryz.prog 25 #[ptr p] w fun e w' => e = .returned (.bool x.on) ∧ w' = w := by
  have y := h.va.cell 2 (v := .bool x.on) rfl
  unfold ptr
  go_enter Tryz.func25, Tryz.ntmps25
  go_wp2
  go_ret
  exact ⟨rfl, rfl⟩
theorem ops_ok (w : World) (B p m : Nat) (x : DK) (h : Dsk w B p m x) : Calls Tryz.prog 21 #[ptr p] w fun e w' => e = .returned (.int .i64 x.ops) ∧ w' = w := by
  have y := h.va.cell 3 (v := .int .i64 x.ops) rfl
  unfold ptr
  go_enter Tryz.func21, Tryz.ntmps21
  go_wp2
  go_ret
  exact ⟨rfl, rfl⟩
/-- what a call that changes the header leaves -/
def Hdr (w w' : World) (B p m : Nat) (x' : DK) : Prop := Dsk w' B p m x' ∧ Kee w w' ∧ Below B w w'
theorem hdr_of {w w' : World} {B p m : Nat} {x : DK} (h : Dsk w B p m x) (k : Upd p w w') (ops left : Nat) (on : Bool) (u : Value)
    (hv : VA w' p [.int .i64 x.room, .map (some m), .bool on, .int .i64 ops, .int .i64 left, u] 106) : Hdr w w' B p m { x with ops := ops, left := left, on := on, und := u } :=
  ⟨h.head k ops left on u hv, Kee.upd k h.va (.inl rfl), k.bel (Below.refl _ _) h.lo.1⟩
theorem arm_ok (w : World) (B p m : Nat) (x : DK) (h : Dsk w B p m x) (n : Nat) (hn : n ≤ 9223372036854775807) (hon : x.on = true) : Calls Tryz.prog 26 #[ptr p, .int .i64 (n : Int)] w fun e w' => e = .returned (.int .i64 0) ∧ Hdr w w' B p m { x with left := n } := by
  have y := h.va.cell 2 (v := .bool x.on) rfl
  rw [hon] at y
  have y4 := h.va.cell 4 (v := .int .i64 x.left) rfl
  have f4 := h.va.free 4
  have d1 : (0 : Int) ≤ (n : Int) := by omega
  have HH := (show Hid _ from h)
  clear h
  unfold ptr
  go_enter Tryz.func26, Tryz.ntmps26
  go_wp2
  go_ret
  exact ⟨rfl, hdr_of HH.out (upd_set _ _ _ _) x.ops n x.on x.und (HH.out.va.set 4 _)⟩
theorem arm_off (w : World) (B p m : Nat) (x : DK) (h : Dsk w B p m x) (n : Nat) (hn : n ≤ 9223372036854775807) (hon : x.on = false) : Calls Tryz.prog 26 #[ptr p, .int .i64 (n : Int)] w fun e w' => e = .returned (.int .i64 18) ∧ w' = w := by
  have y := h.va.cell 2 (v := .bool x.on) rfl
  rw [hon] at y
  have d1 : (0 : Int) ≤ (n : Int) := by omega
  clear h
  unfold ptr
  go_enter Tryz.func26, Tryz.ntmps26
  go_wp2
  go_ret
  exact ⟨rfl, rfl⟩
/-- what begin makes of the header -/
def beg (x : DK) : DK := { x with ops := x.ops + 1, left := x.left - 1, on := decide (x.left ≠ 1) }
theorem begin_ok (w : World) (B p m : Nat) (x : DK) (h : Dsk w B p m x) (hon : x.on = true) (ho : x.ops ≤ 4611686018427387904) (hl : x.left ≤ 9223372036854775807) :
    Calls Tryz.prog 53 #[ptr p] w fun e w' => e = .returned (.bool (beg x).on) ∧ Hdr w w' B p m (beg x) := by
  have V := h.va
  rw [hon] at V
  have y2 := V.cell 2 (v := .bool true) rfl
  have y3 := V.cell 3 (v := .int .i64 x.ops) rfl
  have y4 := V.cell 4 (v := .int .i64 x.left) rfl
  have f2 := V.free 2
  have f3 := V.free 3
  have f4 := V.free 4
  have HH := (show Hid _ from h)
  have HV := (show Hid _ from V)
  have d0 : (x.ops : Int) + 1 ≤ 9223372036854775807 := by omega
  clear h V
  unfold ptr
  by_cases h0 : x.left = 0
  · rw [h0] at y4
    go_enter Tryz.func53, Tryz.ntmps53
    go_wp2
    go_ret
    have hb : beg x = { x with ops := x.ops + 1, left := 0, on := true, und := x.und } := by unfold beg; simp [h0]
    rw [hb]
    refine ⟨rfl, hdr_of HH.out (upd_set _ _ _ _) (x.ops + 1) 0 true x.und ?_⟩
    have := HV.out.set 3 (.int .i64 ((x.ops : Int) + 1))
    rw [h0] at this
    simpa using this
  · obtain ⟨k, hk⟩ : ∃ k, x.left = k + 1 := ⟨x.left - 1, by omega⟩
    rw [hk] at y4 hl
    have d1 : (0 : Int) < ((k + 1 : Nat) : Int) := by omega
    have hb : beg x = { x with ops := x.ops + 1, left := k, on := decide (0 < k), und := x.und } := by unfold beg; simp [hk, Nat.pos_iff_ne_zero]
    rw [hb]
    go_enter Tryz.func53, Tryz.ntmps53
    go_wp2
    go_ret
    refine ⟨rfl, hdr_of HH.out (((upd_set _ _ _ _).trans (upd_set _ _ _ _)).trans (upd_set _ _ _ _)) (x.ops + 1) k (decide (0 < k)) x.und ?_⟩
    have := ((HV.out.set 3 (.int .i64 ((x.ops : Int) + 1))).set 4 (.int .i64 (k : Int))).set 2 (.bool (decide (0 < k)))
    simpa using this
theorem new_ok (n : Nat) (w : World) (h : 1 ≤ n) (h2 : n ≤ 65536) :
    Calls Tryz.prog 18 #[.int .i64 (n : Int)] w fun e w' => ∃ p m, e = .returned (.tuple #[ptr p, .int .i64 0]) ∧ Dsk w' w.heap.size p m ⟨n, 0, 0, true, .nilFunc, []⟩ ∧ Below w.heap.size w w' := by
  have d1 : (1 : Int) ≤ (n : Int) := by omega
  have d2 : (n : Int) ≤ 65536 := by omega
  have hmm := @run_makeMap Tryz.prog
  go_enter Tryz.func18, Tryz.ntmps18
  go_wp2
  refine bodyPost_ret (v := .tuple #[ptr (w.heap.size + 1), .int .i64 0]) (by simp [results, Tryz.results18, go_sem, ptr]) rfl ?_
  have e0 : mf [] = fun _ => none := by funext kl; cases kl <;> rfl
  refine ⟨w.heap.size + 1, w.heap.size, rfl, ⟨?_, by rw [e0]; exact (mapF_made w 9).alloc _, fun e he => (by simp at he), by simp, by omega, by simp [tot]; omega⟩, ((Below.refl _ w).alloc (Nat.le_refl _) _).alloc (by simp) _⟩
  have := va_new (w.alloc (.map #[] 0)) [.int .i64 (n : Int), .map (some w.heap.size), .bool true, .int .i64 0, .int .i64 0, .nilFunc] 106
  rw [World.size_alloc] at this
  exact this
/-- may a name be so? -/
def okc (c : UInt8) : Bool := (97 ≤ c && c ≤ 122) || (48 ≤ c && c ≤ 57)
def isNm (l : List UInt8) : Bool := decide (1 ≤ l.length) && decide (l.length ≤ 16) && l.all okc
theorem okc_iff (c : UInt8) : okc c = true ↔ (97 ≤ (c.toNat : Int) ∧ (c.toNat : Int) ≤ 122) ∨ (48 ≤ (c.toNat : Int) ∧ (c.toNat : Int) ≤ 57) := by
  unfold okc
  simp only [Bool.or_eq_true, Bool.and_eq_true, decide_eq_true_eq, UInt8.le_iff_toNat_le, UInt8.reduceToNat]
  omega
set_option maxRecDepth 100000 in
theorem isName_ok (s : ByteArray) (w : World) (hs : s.size ≤ 9223372036854775807) : Calls Tryz.prog 51 #[.string s] w fun e w' => e = .returned (.bool (isNm s.data.toList)) ∧ w' = w := by
  have hl : s.data.toList.length = s.size := by cases s; rfl
  by_cases h1 : s.size < 1
  · have e : isNm s.data.toList = false := by unfold isNm; rw [hl]; simp; omega
    have d : (s.size : Int) < 1 := by omega
    rw [e]
    go_enter Tryz.func51, Tryz.ntmps51
    go_wp2
    go_ret
    exact ⟨rfl, rfl⟩
  · by_cases h2 : 16 < s.size
    · have e : isNm s.data.toList = false := by unfold isNm; rw [hl]; simp; omega
      have d : 1 ≤ (s.size : Int) := by omega
      have d2 : 16 < (s.size : Int) := by omega
      rw [e]
      go_enter Tryz.func51, Tryz.ntmps51
      go_wp2
      go_ret
      exact ⟨rfl, rfl⟩
    · have d : 1 ≤ (s.size : Int) := by omega
      have d2 : (s.size : Int) ≤ 16 := by omega
      have hfin : isNm s.data.toList = s.data.toList.all okc := by unfold isNm; rw [hl, decide_eq_true (by omega), decide_eq_true (by omega)]; rfl
      obtain ⟨R, hR⟩ : ∃ R, R = s.data.toList.all okc := ⟨_, rfl⟩
      rw [hfin, ← hR]
      have HR := (show Hid _ from hR)
      clear hR
      have HL := (show Hid _ from hl)
      clear hl hfin
      go_enter Tryz.func51, Tryz.ntmps51
      go_wp2
      go_loop [15] (fun i => ∃ k : Nat, k ≤ s.size ∧ i = .int .i64 (k : Int) ∧ Hid (∀ c ∈ s.data.toList.take k, okc c = true)) (fun i => (s.size - intOf i).toNat)
      case atStart => exact ⟨0, Nat.zero_le _, rfl, fun c hc => by simp at hc⟩
      case round =>
        obtain ⟨k, hk, rfl, hc⟩ := hrel
        by_cases hlt : k < s.size
        · obtain ⟨c, hcc⟩ : ∃ c, c = s[k]'hlt := ⟨_, rfl⟩
          have hx : s.data.toList[k]? = some c := by rw [Array.getElem?_toList, hcc]; exact Array.getElem?_eq_getElem hlt
          have hidx : (Instr.index 9 (.string s) (.int .i64 (k : Int))).run Tryz.prog w = .ok (.int .u8 (c.toNat : Int)) w := by
            rw [run_index_string w 9 s .i64 (k : Int) Tryz.underlying9, dif_pos (by omega), hcc]
            simp
          have HX := (show Hid _ from hx)
          have HOK := (show Hid _ from okc_iff c)
          have dk : (k : Int) < (s.size : Int) := by omega
          clear hx hcc
          generalize hC : (c.toNat : Int) = C at *
          have good : (okc c = true) → ∀ x ∈ s.data.toList.take (k + 1), okc x = true := fun ho x hx => by
            rw [List.take_add_one, HX.out] at hx
            rcases List.mem_append.1 hx with hx | hx
            · exact hc.out x hx
            · simp at hx; rw [hx]; exact ho
          have bad : (okc c = false) → s.data.toList.all okc = false := fun ho => by
            rw [List.all_eq_false]
            exact ⟨c, List.mem_of_getElem? HX.out, by simp [ho]⟩
          have HG := (show Hid _ from good)
          have HB := (show Hid _ from bad)
          clear good bad
          by_cases c1 : 97 ≤ C
          · by_cases c2 : C ≤ 122
            · go_wp2
              go_round
              case rel => exact ⟨k + 1, hlt, by simp, HG.out (HOK.out.2 (.inl ⟨c1, c2⟩))⟩
              case measure => simp [intOf]; omega
            · have c3 : 48 ≤ C := by omega
              have c4 : ¬ C ≤ 57 := by omega
              have ho : okc c = false := by
                rcases hh : okc c with _ | _
                · rfl
                · have := HOK.out.1 hh; omega
              go_wp2
              go_ret
              exact ⟨by rw [HR.out, HB.out ho]; rfl, rfl⟩
          · by_cases c2 : 48 ≤ C
            · by_cases c3 : C ≤ 57
              · go_wp2
                go_round
                case rel => exact ⟨k + 1, hlt, by simp, HG.out (HOK.out.2 (.inr ⟨c2, c3⟩))⟩
                case measure => simp [intOf]; omega
              · have ho : okc c = false := by
                  rcases hh : okc c with _ | _
                  · rfl
                  · have := HOK.out.1 hh; omega
                go_wp2
                go_ret
                exact ⟨by rw [HR.out, HB.out ho]; rfl, rfl⟩
            · have ho : okc c = false := by
                rcases hh : okc c with _ | _
                · rfl
                · have := HOK.out.1 hh; omega
              go_wp2
              go_ret
              exact ⟨by rw [HR.out, HB.out ho]; rfl, rfl⟩
        · obtain rfl : k = s.size := by omega
          have e : s.data.toList.all okc = true := List.all_eq_true.2 (by have := hc.out; rwa [← HL.out, List.take_length] at this)
          have HE := (show Hid _ from e)
          clear e
          go_wp2
          go_ret
          exact ⟨by rw [HR.out, HE.out]; rfl, rfl⟩
end Go.Proofs.YtkmdegmpffgplaaGreatDoor
