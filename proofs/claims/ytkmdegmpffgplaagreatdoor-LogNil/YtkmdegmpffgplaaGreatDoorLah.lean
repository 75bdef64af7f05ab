/- disk VI: the small functions: New, begin, On, Ops, Arm, needed, isName. -/
import Derived.Test.YtkmdegmpffgplaaGreatDoorLag
namespace Go.Proofs.YtkmdegmpffgplaaGreatDoor
open Go.RowKit Go.Shelf Go.Maps pk
set_option linter.unusedVariables false

theorem needed_ok (v : Value) (bs : List Nat) (w : World) (h : Bs w v bs) (hl : bs.length ≤ 140737488355328) :
    Calls Tryz.prog 81 #[v] w fun e w' => e = .returned (.int .i64 (cnt bs.length : Nat)) ∧ w' = w := by
  obtain ⟨hby, a, c, rfl, h1, h2, h3, h4⟩ := h
  clear h4 h3
  generalize hn : bs.length = len at *
  clear hn hby
  by_cases h0 : len % 32 = 0
  · have d1 : (len : Int) % 32 = 0 := by omega
    have d2 : ((cnt len : Nat) : Int) = (len : Int) / 32 := by unfold cnt; omega
    rw [d2]
    clear d2
    go_enter Tryz.func81, Tryz.ntmps81
    go_wp2
    go_ret
    exact ⟨rfl, rfl⟩
  · have d1 : 0 < (len : Int) % 32 := by omega
    have d2 : ((cnt len : Nat) : Int) = (len : Int) / 32 + 1 := by unfold cnt; omega
    have d3 : (len : Int) / 32 + 1 ≤ 140737488355328 := by omega
    rw [d2]
    clear d2
    go_enter Tryz.func81, Tryz.ntmps81
    go_wp2
    go_ret
    exact ⟨rfl, rfl⟩
theorem on_ok (w : World) (B p m : Nat) (x : DK) (h : Dsk w B p m x) : Calls Tryz.prog 25 #[ptr p] w fun e w' => e = .returned (.bool x.on) ∧ w' = w := by
  have y := h.va.cell 2 (v := .bool x.on) rfl
  unfold ptr
  go_enter Tryz.func25, Tryz.ntmps25
  go_wp2
  go_ret
  exact ⟨rfl, rfl⟩
theorem ops_ok (w : World) (B p m : Nat) (x : DK) (h : Dsk w B p m x) : Calls Tryz.prog 21 #[ptr p] w fun e w' => e = .returned (.int .i64 x.ops) ∧ w' = w := by
  have y := h.va.cell 3 (v := .int .i64 x.ops) rfl
  unfold ptr
  go_enter Tryz.func21, Tryz.ntmps21
  go_wp2
  go_ret
  exact ⟨rfl, rfl⟩
/-- what a call that changes the header leaves -/
def Hdr (w w' : World) (B p m : Nat) (x' : DK) : Prop := Dsk w' B p m x' ∧ Kee w w' ∧ Below B w w'
theorem hdr_of {w w' : World} {B p m : Nat} {x : DK} (h : Dsk w B p m x) (k : Upd p w w') (ops left : Nat) (on : Bool) (u : Value)
    (hv : VA w' p [.int .i64 x.room, .map (some m), .bool on, .int .i64 ops, .int .i64 left, u] 106) : Hdr w w' B p m { x with ops := ops, left := left, on := on, und := u } :=
  ⟨h.head k ops left on u hv, Kee.upd k h.va (.inl rfl), k.bel (Below.refl _ _) h.lo.1⟩
theorem arm_ok (w : World) (B p m : Nat) (x : DK) (h : Dsk w B p m x) (n : Nat) (hn : n ≤ 9223372036854775807) (hon : x.on = true) : Calls Tryz.prog 26 #[ptr p, .int .i64 (n : Int)] w fun e w' => e = .returned (.int .i64 0) ∧ Hdr w w' B p m { x with left := n } := by
  have y := h.va.cell 2 (v := .bool x.on) rfl
  rw [hon] at y
  have y4 := h.va.cell 4 (v := .int .i64 x.left) rfl
  have f4 := h.va.free 4
  have d1 : (0 : Int) ≤ (n : Int) := by omega
  have HH := (show Hid _ from h)
  clear h
  unfold ptr
  go_enter Tryz.func26, Tryz.ntmps26
  go_wp2
  go_ret
  exact ⟨rfl, hdr_of HH.out (upd_set _ _ _ _) x.ops n x.on x.und (HH.out.va.set 4 _)⟩
theorem arm_off (w : World) (B p m : Nat) (x : DK) (h : Dsk w B p m x) (n : Nat) (hn : n ≤ 9223372036854775807) (hon : x.on = false) : Calls Tryz.prog 26 #[ptr p, .int .i64 (n : Int)] w fun e w' => e = .returned (.int .i64 18) ∧ w' = w := by
  have y := h.va.cell 2 (v := .bool x.on) rfl
  rw [hon] at y
  have d1 : (0 : Int) ≤ (n : Int) := by omega
  clear h
  unfold ptr
  go_enter Tryz.func26, Tryz.ntmps26
  go_wp2
  go_ret
  exact ⟨rfl, rfl⟩
/-- what begin makes of the header -/
def beg (x : DK) : DK := { x with ops := x.ops + 1, left := x.left - 1, on := decide (x.left ≠ 1) }
theorem begin_ok (w : World) (B p m : Nat) (x : DK) (h : Dsk w B p m x) (hon : x.on = true) (ho : x.ops ≤ 4611686018427387904) (hl : x.left ≤ 9223372036854775807) :
    Calls Tryz.prog 53 #[ptr p] w fun e w' => e = .returned (.bool (beg x).on) ∧ Hdr w w' B p m (beg x) := by
  have V := h.va
  rw [hon] at V
  have y2 := V.cell 2 (v := .bool true) rfl
  have y3 := V.cell 3 (v := .int .i64 x.ops) rfl
  have y4 := V.cell 4 (v := .int .i64 x.left) rfl
  have f2 := V.free 2
  have f3 := V.free 3
  have f4 := V.free 4
  have HH := (show Hid _ from h)
  have HV := (show Hid _ from V)
  have d0 : (x.ops : Int) + 1 ≤ 9223372036854775807 := by omega
  clear h V
  unfold ptr
  by_cases h0 : x.left = 0
  · rw [h0] at y4
    go_enter Tryz.func53, Tryz.ntmps53
    go_wp2
    go_ret
    have hb : beg x = { x with ops := x.ops + 1, left := 0, on := true, und := x.und } := by unfold beg; simp [h0]
    rw [hb]
    refine ⟨rfl, hdr_of HH.out (upd_set _ _ _ _) (x.ops + 1) 0 true x.und ?_⟩
    have := HV.out.set 3 (.int .i64 ((x.ops : Int) + 1))
    rw [h0] at this
    simpa using this
  · obtain ⟨k, hk⟩ : ∃ k, x.left = k + 1 := ⟨x.left - 1, by omega⟩
    rw [hk] at y4 hl
    have d1 : (0 : Int) < ((k + 1 : Nat) : Int) := by omega
    have hb : beg x = { x with ops := x.ops + 1, left := k, on := decide (0 < k), und := x.und } := by unfold beg; simp [hk, Nat.pos_iff_ne_zero]
    rw [hb]
    go_enter Tryz.func53, Tryz.ntmps53
    go_wp2
    go_ret
    refine ⟨rfl, hdr_of HH.out (((upd_set _ _ _ _).trans (upd_set _ _ _ _)).trans (upd_set _ _ _ _)) (x.ops + 1) k (decide (0 < k)) x.und ?_⟩
    have := ((HV.out.set 3 (.int .i64 ((x.ops : Int) + 1))).set 4 (.int .i64 (k : Int))).set 2 (.bool (decide (0 < k)))
    simpa using this
theorem new_ok (n : Nat) (w : World) (h : 1 ≤ n) (h2 : n ≤ 65536) :
    Calls Tryz.prog 18 #[.int .i64 (n : Int)] w fun e w' => ∃ p m, e = .returned (.tuple #[ptr p, .int .i64 0]) ∧ Dsk w' w.heap.size p m ⟨n, 0, 0, true, .nilFunc, []⟩ ∧ Below w.heap.size w w' := by
  have d1 : (1 : Int) ≤ (n : Int) := by omega
  have d2 : (n : Int) ≤ 65536 := by omega
  have hmm := @run_makeMap Tryz.prog
  go_enter Tryz.func18, Tryz.ntmps18
  go_wp2
  refine bodyPost_ret (v := .tuple #[ptr (w.heap.size + 1), .int .i64 0]) (by simp [results, Tryz.results18, go_sem, ptr]) rfl ?_
  have e0 : mf [] = fun _ => none := by funext kl; cases kl <;> rfl
  refine ⟨w.heap.size + 1, w.heap.size, rfl, ⟨?_, by rw [e0]; exact (mapF_made w 9).alloc _, fun e he => (by simp at he), by simp, by omega, by simp [tot]; omega⟩, ((Below.refl _ w).alloc (Nat.le_refl _) _).alloc (by simp) _⟩
  have := va_new (w.alloc (.map #[] 0)) [.int .i64 (n : Int), .map (some w.heap.size), .bool true, .int .i64 0, .int .i64 0, .nilFunc] 106
  rw [World.size_alloc] at this
  exact this
/-- may a name be so? -/
def okc (c : UInt8) : Bool := (97 ≤ c && c ≤ 122) || (48 ≤ c && c ≤ 57)
def isNm (l : List UInt8) : Bool := decide (1 ≤ l.length) && decide (l.length ≤ 16) && l.all okc
theorem okc_iff (c : UInt8) : okc c = true ↔ (97 ≤ (c.toNat : Int) ∧ (c.toNat : Int) ≤ 122) ∨ (48 ≤ (c.toNat : Int) ∧ (c.toNat : Int) ≤ 57) := by
  unfold okc
  simp only [Bool.or_eq_true, Bool.and_eq_true, decide_eq_true_eq, UInt8.le_iff_toNat_le, UInt8.reduceToNat]
  omega
set_option maxRecDepth 100000 in
theorem isName_ok (s : ByteArray) (w : World) (hs : s.size ≤ 9223372036854775807) : Calls Tryz.prog 51 #[.string s] w fun e w' => e = .returned (.bool (isNm s.data.toList)) ∧ w' = w := by
  have hl : s.data.toList.length = s.size := by cases s; rfl
  by_cases h1 : s.size < 1
  · have e : isNm s.data.toList = false := by unfold isNm; rw [hl]; simp; omega
    have d : (s.size : Int) < 1 := by omega
    rw [e]
    go_enter Tryz.func51, Tryz.ntmps51
    go_wp2
    go_ret
    exact ⟨rfl, rfl⟩
  · by_cases h2 : 16 < s.size
    · have e : isNm s.data.toList = false := by unfold isNm; rw [hl]; simp; omega
      have d : 1 ≤ (s.size : Int) := by omega
      have d2 : 16 < (s.size : Int) := by omega
      rw [e]
      go_enter Tryz.func51, Tryz.ntmps51
      go_wp2
      go_ret
      exact ⟨rfl, rfl⟩
    · have d : 1 ≤ (s.size : Int) := by omega
      have d2 : (s.size : Int) ≤ 16 := by omega
      have hfin : isNm s.data.toList = s.data.toList.all okc := by unfold isNm; rw [hl, decide_eq_true (by omega), decide_eq_true (by omega)]; rfl
      obtain ⟨R, hR⟩ : ∃ R, R = s.data.toList.all okc := ⟨_, rfl⟩
      rw [hfin, ← hR]
      have HR := (show Hid _ from hR)
      clear hR
      have HL := (show Hid _ from hl)
      clear hl hfin
      go_enter Tryz.func51, Tryz.ntmps51
      go_wp2
      go_loop [15] (fun i => ∃ k : Nat, k ≤ s.size ∧ i = .int .i64 (k : Int) ∧ Hid (∀ c ∈ s.data.toList.take k, okc c = true)) (fun i => (s.size - intOf i).toNat)
      case atStart => exact ⟨0, Nat.zero_le _, rfl, fun c hc => by simp at hc⟩
      case round =>
        obtain ⟨k, hk, rfl, hc⟩ := hrel
        by_cases hlt : k < s.size
        · obtain ⟨c, hcc⟩ : ∃ c, c = s[k]'hlt := ⟨_, rfl⟩
          have hx : s.data.toList[k]? = some c := by rw [Array.getElem?_toList, hcc]; exact Array.getElem?_eq_getElem hlt
          have hidx : (Instr.index 9 (.string s) (.int .i64 (k : Int))).run Tryz.prog w = .ok (.int .u8 (c.toNat : Int)) w := by
            rw [run_index_string w 9 s .i64 (k : Int) Tryz.underlying9, dif_pos (by omega), hcc]
            simp
          have HX := (show Hid _ from hx)
          have HOK := (show Hid _ from okc_iff c)
          have dk : (k : Int) < (s.size : Int) := by omega
          clear hx hcc
          generalize hC : (c.toNat : Int) = C at *
          have good : (okc c = true) → ∀ x ∈ s.data.toList.take (k + 1), okc x = true := fun ho x hx => by
            rw [List.take_add_one, HX.out] at hx
            rcases List.mem_append.1 hx with hx | hx
            · exact hc.out x hx
            · simp at hx; rw [hx]; exact ho
          have bad : (okc c = false) → s.data.toList.all okc = false := fun ho => by
            rw [List.all_eq_false]
            exact ⟨c, List.mem_of_getElem? HX.out, by simp [ho]⟩
          have HG := (show Hid _ from good)
          have HB := (show Hid _ from bad)
          clear good bad
          by_cases c1 : 97 ≤ C
          · by_cases c2 : C ≤ 122
            · go_wp2
              go_round
              case rel => exact ⟨k + 1, hlt, by simp, HG.out (HOK.out.2 (.inl ⟨c1, c2⟩))⟩
              case measure => simp [intOf]; omega
            · have c3 : 48 ≤ C := by omega
              have c4 : ¬ C ≤ 57 := by omega
              have ho : okc c = false := by
                rcases hh : okc c with _ | _
                · rfl
                · have := HOK.out.1 hh; omega
              go_wp2
              go_ret
              exact ⟨by rw [HR.out, HB.out ho]; rfl, rfl⟩
          · by_cases c2 : 48 ≤ C
            · by_cases c3 : C ≤ 57
              · go_wp2
                go_round
                case rel => exact ⟨k + 1, hlt, by simp, HG.out (HOK.out.2 (.inr ⟨c2, c3⟩))⟩
                case measure => simp [intOf]; omega
              · have ho : okc c = false := by
                  rcases hh : okc c with _ | _
                  · rfl
                  · have := HOK.out.1 hh; omega
                go_wp2
                go_ret
                exact ⟨by rw [HR.out, HB.out ho]; rfl, rfl⟩
            · have ho : okc c = false := by
                rcases hh : okc c with _ | _
                · rfl
                · have := HOK.out.1 hh; omega
              go_wp2
              go_ret
              exact ⟨by rw [HR.out, HB.out ho]; rfl, rfl⟩
        · obtain rfl : k = s.size := by omega
          have e : s.data.toList.all okc = true := List.all_eq_true.2 (by have := hc.out; rwa [← HL.out, List.take_length] at this)
          have HE := (show Hid _ from e)
          clear e
          go_wp2
          go_ret
          exact ⟨by rw [HR.out, HE.out]; rfl, rfl⟩
end Go.Proofs.YtkmdegmpffgplaaGreatDoor
/- disk VII: how many files there are; fits; find. -/
namespace Go.Proofs.YtkmdegmpffgplaaGreatDoor
open Go.RowKit Go.Shelf Go.Maps pk
open Go.WideElems (Fit rd rg pl rd_key rd_val rg_of other_key)
set_option linter.unusedVariables false

def lits (es : List Ent) : List Lit := es.map fun e => .string e.nm
theorem fd_mem {es : List Ent} {l : List UInt8} {e : Ent} (h : fd es l = some e) : e ∈ es ∧ e.nm = l := by
  unfold fd at h
  exact ⟨List.mem_of_find?_eq_some h, by simpa using List.find?_some h⟩
theorem mf_some {es : List Ent} {kl : Lit} {c : Value} (h : mf es kl = some c) : ∃ e, e ∈ es ∧ kl = .string e.nm ∧ c = ptr e.q ∧ fd es e.nm = some e := by
  cases kl with
  | string l =>
    obtain ⟨e, h1, h2⟩ := Option.map_eq_some_iff.1 h
    obtain ⟨h3, rfl⟩ := fd_mem h1
    exact ⟨e, h3, rfl, h2.symm, h1⟩
  | _ => cases h
theorem fd_of {es : List Ent} (hp : es.Pairwise Apart) {e : Ent} (he : e ∈ es) : fd es e.nm = some e := by
  induction es with
  | nil => cases he
  | cons a es ih =>
    obtain ⟨h1, h2⟩ := List.pairwise_cons.1 hp
    unfold fd
    rw [List.find?_cons]
    rcases List.mem_cons.1 he with rfl | he
    · simp
    · have : (a.nm == e.nm) = false := by simpa using (h1 e he).1
      rw [this]
      exact ih h2 he
theorem nm_key {l : List UInt8} (h : l.length ≤ 16) : keyOf Tryz.prog 9 (.string ⟨l.toArray⟩) = some (.string l) := by
  have := keyS (s := ⟨l.toArray⟩) (by show l.toArray.size ≤ _; simp; omega)
  simpa using this
/-- a map of files has as many entries as there are files -/
theorem MapF.lenS {w : World} {b n : Nat} {es : List Ent} (h : MapF w 9 b n (mf es)) (hp : es.Pairwise Apart) (hn : ∀ e ∈ es, e.nm.length ≤ 16) : ∃ D : DataW Value, w.ownsMap Tryz.prog 9 heldR b n D ∧ Maps.size D = es.length := by
  obtain ⟨D, ho, hf⟩ := h
  refine ⟨D, ho, ?_⟩
  obtain ⟨ms, clock, hb, F, hs, rfl⟩ := ho
  have h1 := Maps.fit_apart keyedS F
  have hin : ∀ kl, Maps.has (.map ((ms.toList.map (rg Tryz.prog 9 heldR)).foldr DataW.insert [])) kl = true ↔ kl ∈ (ms.toList.map (rg Tryz.prog 9 heldR)).map (·.1) := fun kl => by
    constructor
    · intro hh
      obtain ⟨p, hp, hk⟩ := List.any_eq_true.1 hh
      rw [← WideAt.sameKey_eq hk]
      exact List.mem_map.2 ⟨p, mem_sorted.1 hp, rfl⟩
    · intro hh
      obtain ⟨p, hp, rfl⟩ := List.mem_map.1 hh
      obtain ⟨e, he, rfl⟩ := List.mem_map.1 hp
      obtain ⟨y, hy⟩ := F.reads e he
      refine List.any_eq_true.2 ⟨rg Tryz.prog 9 heldR e, mem_sorted.2 (List.mem_map.2 ⟨e, he, rfl⟩), ?_⟩
      rw [rg_of hy]
      exact WideAt.sameKey_self (keyedS.key (rd_key hy))
  have hsz : Maps.size (.map ((ms.toList.map (rg Tryz.prog 9 heldR)).foldr DataW.insert [])) = ((ms.toList.map (rg Tryz.prog 9 heldR)).map (·.1)).length := by
    simp [Maps.size, length_sorted]
  rw [hsz]
  have hll : (lits es).length = es.length := by simp [lits]
  rw [← hll]
  refine Nat.le_antisymm (pig _ _ (List.pairwise_map.2 h1) (fun kl hk => ?_)) (pig _ _ ?_ (fun kl hk => ?_))
  · obtain ⟨p, hp', rfl⟩ := List.mem_map.1 hk
    obtain ⟨e, he, rfl⟩ := List.mem_map.1 hp'
    obtain ⟨y, hy⟩ := F.reads e he
    have := (hin _).2 hk
    rw [rg_of hy] at this ⊢
    rw [(hf _ _ (rd_key hy)).1] at this
    obtain ⟨c, hc⟩ := Option.isSome_iff_exists.1 this
    obtain ⟨e', h3, h4, _⟩ := mf_some hc
    exact List.mem_map.2 ⟨e', h3, h4.symm⟩
  · exact List.pairwise_map.2 (hp.imp (fun h e => h.1 (by injection e)))
  · obtain ⟨e, he, rfl⟩ := List.mem_map.1 hk
    refine (hin _).1 ?_
    rw [(hf _ _ (nm_key (hn e he))).1]
    show ((fd es e.nm).map _).isSome = true
    rw [fd_of hp he]
    rfl
theorem Dsk.lenRun {w : World} {B p m : Nat} {x : DK} (h : Dsk w B p m x) : (Builtin.len_ #[104] 3 #[.map (some m)]).run Tryz.prog w = .ok (.int .i64 x.es.length) w := by
  obtain ⟨D, h1, h2⟩ := MapF.lenS h.mp h.ap (fun e he => (h.fil e he).nm)
  rw [← h2]
  exact h1.len Tryz.underlying104 _
theorem zeroF (w : World) : (zeroValue 110).run Tryz.prog w = .ok (.pointer none) w := Tryz.zeroValue110 w
theorem Dsk.look {w : World} {B p m : Nat} {x : DK} (h : Dsk w B p m x) {s : ByteArray} (hs : s.size ≤ 1048576) : (Instr.lookup 104 (.map (some m)) (.string s) false).run Tryz.prog w = .ok (((fd x.es s.data.toList).map fun e => ptr e.q).getD (.pointer none)) w :=
  h.mp.look keyedS Tryz.underlying104 (zeroF w) (keyS hs)
/-- the sectors of the files that are still to come -/
def rem (left : Lit → Bool) : List Ent → Nat
  | [] => 0
  | e :: es => (if left (.string e.nm) then e.ss.length else 0) + rem left es
theorem rem_none {left : Lit → Bool} (h : ∀ kl, left kl = false) (es : List Ent) : rem left es = 0 := by
  induction es with
  | nil => rfl
  | cons e es ih => simp [rem, h, ih]
theorem rem_all {left : Lit → Bool} {es : List Ent} (h : ∀ e ∈ es, left (.string e.nm) = true) : rem left es = tot es := by
  induction es with
  | nil => rfl
  | cons e es ih => simp [rem, tot, h e (List.mem_cons_self ..), ih (fun a ha => h a (List.mem_cons_of_mem _ ha))]
theorem rem_same {left : Lit → Bool} {l : List UInt8} {es : List Ent} (h : ∀ e ∈ es, e.nm ≠ l) : rem (fun z => left z && !z.sameKey (.string l)) es = rem left es := by
  induction es with
  | nil => rfl
  | cons e es ih =>
    have : (Lit.string e.nm).sameKey (.string l) = false := by
      cases hh : (Lit.string e.nm).sameKey (.string l)
      · rfl
      · have := WideAt.sameKey_eq hh
        injection this with this
        exact absurd this (h e (List.mem_cons_self ..))
    simp only [rem, this, Bool.not_false, Bool.and_true]
    rw [ih (fun a ha => h a (List.mem_cons_of_mem _ ha))]
theorem rem_step {left : Lit → Bool} {es : List Ent} (hp : es.Pairwise Apart) {e : Ent} (he : e ∈ es) (hl : left (.string e.nm) = true) (hk : (Lit.string e.nm).sameKey (.string e.nm) = true) : rem left es = rem (fun z => left z && !z.sameKey (.string e.nm)) es + e.ss.length := by
  induction es with
  | nil => cases he
  | cons a es ih =>
    obtain ⟨h1, h2⟩ := List.pairwise_cons.1 hp
    rcases List.mem_cons.1 he with rfl | he
    · simp only [rem, hl, hk, Bool.not_true, Bool.and_false]
      rw [rem_same (fun b hb => (h1 b hb).1.symm)]
      simp
      omega
    · have : (Lit.string a.nm).sameKey (.string e.nm) = false := by
        cases hh : (Lit.string a.nm).sameKey (.string e.nm)
        · rfl
        · have := WideAt.sameKey_eq hh
          injection this with this
          exact absurd this (h1 e he).1
      simp only [rem, this, Bool.not_false, Bool.and_true]
      rw [ih h2 he]
      omega
end Go.Proofs.YtkmdegmpffgplaaGreatDoor
