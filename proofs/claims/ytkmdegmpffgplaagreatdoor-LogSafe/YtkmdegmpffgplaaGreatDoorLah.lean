/- disk VII: how many files there are; fits; find. -/
import Derived.Test.YtkmdegmpffgplaaGreatDoorLag
import Derived.Great.BuildSlice
import Derived.Maps.AppendAt
import Derived.Deep.RegionHeld3
import Derived.Test.YtkmdegmpffgplaaGreatDoorLac
namespace Go.Proofs.YtkmdegmpffgplaaGreatDoor
open Go.RowKit Go.Shelf Go.Maps pk
open Go.WideElems (Fit rd rg pl rd_key rd_val rg_of other_key)
set_option linter.unusedVariables false

def lits (es : List Ent) : List Lit := es.map fun e => .string e.nm
theorem fd_mem {es : List Ent} {l : List UInt8} {e : Ent} (h : fd es l = some e) : e ∈ es ∧ e.nm = l := by
  unfold fd at h
  exact ⟨List.mem_of_find?_eq_some h, by simpa using List.find?_some h⟩
theorem mf_some {es : List Ent} {kl : Lit} {c : Value} (h : mf es kl = some c) : ∃ e, e ∈ es ∧ kl = .string e.nm ∧ c = ptr e.q ∧ fd es e.nm = some e := by
  cases kl with
  | string l =>
    obtain ⟨e, h1, h2⟩ := Option.map_eq_some_iff.1 h
    obtain ⟨h3, rfl⟩ := fd_mem h1
    exact ⟨e, h3, rfl, h2.symm, h1⟩
  | _ => cases h
theorem fd_of {es : List Ent} (hp : es.Pairwise Apart) {e : Ent} (he : e ∈ es) : fd es e.nm = some e := by
  induction es with
  | nil => cases he
  | cons a es ih =>
    obtain ⟨h1, h2⟩ := List.pairwise_cons.1 hp
    unfold fd
    rw [List.find?_cons]
    rcases List.mem_cons.1 he with rfl | he
    · simp
    · have : (a.nm == e.nm) = false := by simpa using (h1 e he).1
      rw [this]
      exact ih h2 he
theorem nm_key {l : List UInt8} (h : l.length ≤ 16) : keyOf Tryz.prog 9 (.string ⟨l.toArray⟩) = some (.string l) := by
  have := keyS (s := ⟨l.toArray⟩) (by show l.toArray.size ≤ _; simp; omega)
  simpa using this
/-- a map of files has as many entries as there are files -/
theorem MapF.lenS {w : World} {b n : Nat} {es : List Ent} (h : MapF w 9 b n (mf es)) (hp : es.Pairwise Apart) (hn : ∀ e ∈ es, e.nm.length ≤ 16) : ∃ D : DataW Value, w.ownsMap Tryz.prog 9 heldR b n D ∧ Maps.size D = es.length := by
  obtain ⟨D, ho, hf⟩ := h
  refine ⟨D, ho, ?_⟩
  obtain ⟨ms, clock, hb, F, hs, rfl⟩ := ho
  have h1 := Maps.fit_apart keyedS F
  have hin : ∀ kl, Maps.has (.map ((ms.toList.map (rg Tryz.prog 9 heldR)).foldr DataW.insert [])) kl = true ↔ kl ∈ (ms.toList.map (rg Tryz.prog 9 heldR)).map (·.1) := fun kl => by
    constructor
    · intro hh
      obtain ⟨p, hp, hk⟩ := List.any_eq_true.1 hh
      rw [← WideAt.sameKey_eq hk]
      exact List.mem_map.2 ⟨p, mem_sorted.1 hp, rfl⟩
    · intro hh
      obtain ⟨p, hp, rfl⟩ := List.mem_map.1 hh
      obtain ⟨e, he, rfl⟩ := List.mem_map.1 hp
      obtain ⟨y, hy⟩ := F.reads e he
      refine List.any_eq_true.2 ⟨rg Tryz.prog 9 heldR e, mem_sorted.2 (List.mem_map.2 ⟨e, he, rfl⟩), ?_⟩
      rw [rg_of hy]
      exact WideAt.sameKey_self (keyedS.key (rd_key hy))
  have hsz : Maps.size (.map ((ms.toList.map (rg Tryz.prog 9 heldR)).foldr DataW.insert [])) = ((ms.toList.map (rg Tryz.prog 9 heldR)).map (·.1)).length := by
    simp [Maps.size, length_sorted]
  rw [hsz]
  have hll : (lits es).length = es.length := by simp [lits]
  rw [← hll]
  refine Nat.le_antisymm (pig _ _ (List.pairwise_map.2 h1) (fun kl hk => ?_)) (pig _ _ ?_ (fun kl hk => ?_))
  · obtain ⟨p, hp', rfl⟩ := List.mem_map.1 hk
    obtain ⟨e, he, rfl⟩ := List.mem_map.1 hp'
    obtain ⟨y, hy⟩ := F.reads e he
    have := (hin _).2 hk
    rw [rg_of hy] at this ⊢
    rw [(hf _ _ (rd_key hy)).1] at this
    obtain ⟨c, hc⟩ := Option.isSome_iff_exists.1 this
    obtain ⟨e', h3, h4, _⟩ := mf_some hc
    exact List.mem_map.2 ⟨e', h3, h4.symm⟩
  · exact List.pairwise_map.2 (hp.imp (fun h e => h.1 (by injection e)))
  · obtain ⟨e, he, rfl⟩ := List.mem_map.1 hk
    refine (hin _).1 ?_
    rw [(hf _ _ (nm_key (hn e he))).1]
    show ((fd es e.nm).map _).isSome = true
    rw [fd_of hp he]
    rfl
theorem Dsk.lenRun {w : World} {B p m : Nat} {x : DK} (h : Dsk w B p m x) : (Builtin.len_ #[104] 3 #[.map (some m)]).run Tryz.prog w = .ok (.int .i64 x.es.length) w := by
  obtain ⟨D, h1, h2⟩ := MapF.lenS h.mp h.ap (fun e he => (h.fil e he).nm)
  rw [← h2]
  exact h1.len Tryz.underlying104 _
theorem zeroF (w : World) : (zeroValue 110).run Tryz.prog w = .ok (.pointer none) w := Tryz.zeroValue110 w
theorem Dsk.look {w : World} {B p m : Nat} {x : DK} (h : Dsk w B p m x) {s : ByteArray} (hs : s.size ≤ 1048576) : (Instr.lookup 104 (.map (some m)) (.string s) false).run Tryz.prog w = .ok (((fd x.es s.data.toList).map fun e => ptr e.q).getD (.pointer none)) w :=
  h.mp.look keyedS Tryz.underlying104 (zeroF w) (keyS hs)
/-- the sectors of the files that are still to come -/
def rem (left : Lit → Bool) : List Ent → Nat
  | [] => 0
  | e :: es => (if left (.string e.nm) then e.ss.length else 0) + rem left es
theorem rem_none {left : Lit → Bool} (h : ∀ kl, left kl = false) (es : List Ent) : rem left es = 0 := by
  induction es with
  | nil => rfl
  | cons e es ih => simp [rem, h, ih]
theorem rem_all {left : Lit → Bool} {es : List Ent} (h : ∀ e ∈ es, left (.string e.nm) = true) : rem left es = tot es := by
  induction es with
  | nil => rfl
  | cons e es ih => simp [rem, tot, h e (List.mem_cons_self ..), ih (fun a ha => h a (List.mem_cons_of_mem _ ha))]
theorem rem_same {left : Lit → Bool} {l : List UInt8} {es : List Ent} (h : ∀ e ∈ es, e.nm ≠ l) : rem (fun z => left z && !z.sameKey (.string l)) es = rem left es := by
  induction es with
  | nil => rfl
  | cons e es ih =>
    have : (Lit.string e.nm).sameKey (.string l) = false := by
      cases hh : (Lit.string e.nm).sameKey (.string l)
      · rfl
      · have := WideAt.sameKey_eq hh
        injection this with this
        exact absurd this (h e (List.mem_cons_self ..))
    simp only [rem, this, Bool.not_false, Bool.and_true]
    rw [ih (fun a ha => h a (List.mem_cons_of_mem _ ha))]
theorem rem_step {left : Lit → Bool} {es : List Ent} (hp : es.Pairwise Apart) {e : Ent} (he : e ∈ es) (hl : left (.string e.nm) = true) (hk : (Lit.string e.nm).sameKey (.string e.nm) = true) : rem left es = rem (fun z => left z && !z.sameKey (.string e.nm)) es + e.ss.length := by
  induction es with
  | nil => cases he
  | cons a es ih =>
    obtain ⟨h1, h2⟩ := List.pairwise_cons.1 hp
    rcases List.mem_cons.1 he with rfl | he
    · simp only [rem, hl, hk, Bool.not_true, Bool.and_false]
      rw [rem_same (fun b hb => (h1 b hb).1.symm)]
      simp
      omega
    · have : (Lit.string a.nm).sameKey (.string e.nm) = false := by
        cases hh : (Lit.string a.nm).sameKey (.string e.nm)
        · rfl
        · have := WideAt.sameKey_eq hh
          injection this with this
          exact absurd this (h1 e he).1
      simp only [rem, this, Bool.not_false, Bool.and_true]
      rw [ih h2 he]
      omega
end Go.Proofs.YtkmdegmpffgplaaGreatDoor
/- disk VIII: find; fits. -/
namespace Go.Proofs.YtkmdegmpffgplaaGreatDoor
open Go.RowKit Go.Shelf Go.Maps pk
set_option linter.unusedVariables false

theorem find_bad (w : World) (v : Value) (s : ByteArray) (hs : s.size ≤ 1048576) (hn : isNm s.data.toList = false) :
    Calls Tryz.prog 55 #[v, .string s] w fun e w' => e = .returned (.tuple #[.pointer none, .int .i64 1]) ∧ w' = w := by
  have HC := (show Hid _ from fun w => isName_ok s w (by omega))
  go_enter Tryz.func55, Tryz.ntmps55
  go_wp2_with (go_at_call 51; refine (HC.out _).mono ?_; rintro e w' ⟨rfl, rfl⟩; rw [hn])
  refine bodyPost_ret (v := .tuple #[.pointer none, .int .i64 1]) (by simp [results, Tryz.results55, go_sem]) rfl ?_
  exact ⟨rfl, rfl⟩
theorem find_none (w : World) (B p m : Nat) (x : DK) (h : Dsk w B p m x) (s : ByteArray) (hs : s.size ≤ 1048576) (hn : isNm s.data.toList = true) (hf : fd x.es s.data.toList = none) :
    Calls Tryz.prog 55 #[ptr p, .string s] w fun e w' => e = .returned (.tuple #[.pointer none, .int .i64 7]) ∧ w' = w := by
  have HC := (show Hid _ from fun w => isName_ok s w (by omega))
  have y := h.va.cell 1 (v := .map (some m)) rfl
  have hlk := h.look hs
  rw [hf] at hlk
  simp only [Option.map_none, Option.getD_none] at hlk
  clear h
  unfold ptr
  go_enter Tryz.func55, Tryz.ntmps55
  go_wp2_with (go_at_call 51; refine (HC.out _).mono ?_; rintro e w' ⟨rfl, rfl⟩; rw [hn])
  refine bodyPost_ret (v := .tuple #[.pointer none, .int .i64 7]) (by simp [results, Tryz.results55, go_sem]) rfl ?_
  exact ⟨rfl, rfl⟩
theorem find_some (w : World) (B p m : Nat) (x : DK) (h : Dsk w B p m x) (s : ByteArray) (hs : s.size ≤ 1048576) (hn : isNm s.data.toList = true) (f : Ent) (hf : fd x.es s.data.toList = some f) :
    Calls Tryz.prog 55 #[ptr p, .string s] w fun e w' => e = .returned (.tuple #[ptr f.q, .int .i64 0]) ∧ w' = w := by
  have HC := (show Hid _ from fun w => isName_ok s w (by omega))
  have y := h.va.cell 1 (v := .map (some m)) rfl
  have hlk := h.look hs
  rw [hf] at hlk
  simp only [Option.map_some, Option.getD_some] at hlk
  clear h
  unfold ptr at *
  go_enter Tryz.func55, Tryz.ntmps55
  go_wp2_with (go_at_call 51; refine (HC.out _).mono ?_; rintro e w' ⟨rfl, rfl⟩; rw [hn])
  refine bodyPost_ret (v := .tuple #[.pointer (some ⟨f.q, 0, none⟩), .int .i64 0]) (by simp [results, Tryz.results55, go_sem]) rfl ?_
  exact ⟨rfl, rfl⟩
theorem rem_le (left : Lit → Bool) (es : List Ent) : rem left es ≤ tot es := by
  induction es with
  | nil => exact Nat.le_refl _
  | cons e es ih => simp only [rem, tot]; split <;> omega
/-- is there room? -/
def fit (x : DK) (l : List UInt8) (k : Nat) : Bool := !((fd x.es l).isNone && decide (x.es.length = 64)) && decide (k ≤ x.room - tot x.es)
set_option maxRecDepth 100000 in
theorem fits_ok (w : World) (B p m : Nat) (x : DK) (h : Dsk w B p m x) (s : ByteArray) (hs : s.size ≤ 1048576) (v : Value) (bs : List Nat) (hb : Bs w v bs) (hl : bs.length ≤ 140737488355328) :
    Calls Tryz.prog 52 #[ptr p, .string s, v] w fun e w' => e = .returned (.bool (fit x s.data.toList (cnt bs.length))) ∧ Below w.heap.size w w' := by
  have y0 := h.va.cell 0 (v := .int .i64 x.room) rfl
  have y := h.va.cell 1 (v := .map (some m)) rfl
  have hlk := h.look hs
  have hln := h.lenRun
  have HH := (show Hid _ from h)
  have HBV := (show Hid _ from hb)
  have hpl := h.va.lt
  have hlim := h.fits
  unfold ptr
  clear h hb
  by_cases hfull : fd x.es s.data.toList = none ∧ x.es.length = 64
  · rw [hfull.1] at hlk
    rw [hfull.2] at hln
    simp only [Option.map_none, Option.getD_none] at hlk
    go_enter Tryz.func52, Tryz.ntmps52
    go_wp2_with fail
    go_ret
    exact ⟨by unfold fit; rw [hfull.1, hfull.2]; rfl, Below.refl _ _⟩
  · have hfit : fit x s.data.toList (cnt bs.length) = decide (cnt bs.length ≤ x.room - tot x.es) := by
      unfold fit
      cases hf : fd x.es s.data.toList with
      | none =>
        have : ¬ x.es.length = 64 := fun e => hfull ⟨hf, e⟩
        simp [this]
      | some e => simp
    rw [hfit]
    clear hfit
    have HM := (show Hid _ from HH.out.mp)
    cases hf : fd x.es s.data.toList with
    | none =>
      rw [hf] at hlk
      simp only [Option.map_none, Option.getD_none] at hlk
      have hne : ((x.es.length : Int) == 64) = false := by
        cases hh : ((x.es.length : Int) == 64)
        · rfl
        · exact absurd ⟨hf, by have := beq_iff_eq.1 hh; omega⟩ hfull
      have hne2 : decide ((x.es.length : Int) = 64) = false := decide_eq_false (fun e => hfull ⟨hf, by omega⟩)
      have hne3 : decide (x.es.length = 64) = false := decide_eq_false (fun e => hfull ⟨hf, e⟩)
      clear hf hfull
      go_enter Tryz.func52, Tryz.ntmps52
      go_wp2_with (at_range; refine rgM rfl _ 104 rfl 9 110 keyedS Tryz.underlying104 m x.es.length (mf x.es) (by rfl) HM.out ?_; intro w1 left cn r1 l1 b1)
      go_frame
      have R1 : Hid (RanF w1 9 m w.heap.size x.es.length (mf x.es) left cn) := r1
      have L1 : Hid (x.room + tot x.es = x.room + rem left x.es) := by
        show x.room + tot x.es = x.room + rem left x.es
        rw [rem_all (fun e he => ?_)]
        rw [l1 _ _ (nm_key (HH.out.fil e he).nm)]
        show ((fd x.es e.nm).map _).isSome = true
        rw [fd_of HH.out.ap he]
        rfl
      have HB1 : Hid (Below w.heap.size w w1) := b1
      have HML : Hid (m < w.heap.size) := HH.out.mp.lt
      clear r1 l1 b1 HM
      generalize hr : w.heap.size = r at *
      go_loopw [7] (fun i wx => ∃ (left : Lit → Bool) (cn f : Nat), i = .int .i64 (f : Int) ∧ Hid (f + tot x.es = x.room + rem left x.es) ∧ Hid (RanF wx 9 m r x.es.length (mf x.es) left cn) ∧ Hid (Below r w wx)) (fun _ wx => wx.rangeLeft m r)
      case atStart => exact ⟨left, cn, x.room, rfl, L1.out, R1.out, HB1.out⟩
      case round =>
        obtain ⟨left, cn, f, rfl, L, R, HBx⟩ := hrel
        go_wp2_with (at_next; refine nxM rfl _ rfl 9 keyedS m r x.es.length (mf x.es) left cn (by rfl) R.out ?_ ?_)
        · intro hl0
          have hf0 := L.out
          rw [rem_none hl0] at hf0
          have HBS2 : Hid (Bs wr v bs) := HBV.out.step (hr ▸ HBx.out)
          have HF0 : Hid (f = x.room - tot x.es) := (show f = x.room - tot x.es by omega)
          clear hf0
          go_wp2_with (go_at_call 81; refine (needed_ok v bs _ HBS2.out hl).mono ?_; rintro e w' ⟨rfl, rfl⟩)
          go_ret
          refine ⟨?_, by rw [hr]; exact HBx.out⟩
          rw [← HF0.out]
          simp
        · intro xk c kl w2 cn2 hkey hlk2 hc R2 hlt U2 hen
          obtain ⟨e, he, rfl, rfl, _⟩ := mf_some hc
          have HR2 : Hid (RanF w2 9 m r x.es.length (mf x.es) _ cn2) := R2
          have HB2 : Hid (Below r w w2) := HBx.out.trans (U2.below (by have := HBx.out.size; omega) (fun i (hi : i = r) => by omega))
          have HMS : Hid (w2.rangeLeft m r = cn2 ∧ wr.rangeLeft m r = cn ∧ cn2 < cn) := ⟨R2.left_eq, R.out.left_eq, hlt⟩
          have HST : Hid (rem left x.es = rem (fun z => left z && !z.sameKey (.string e.nm)) x.es + e.ss.length) := rem_step HH.out.ap he hlk2 (WideAt.sameKey_self (keyedS.key hkey))
          have F2 := (HH.out.step (hr ▸ HB2.out)).fil e he
          obtain ⟨a, cp, hv, hcp, hcm⟩ := F2.row.form
          have z := F2.blk.cell 0 (v := e.v) rfl
          rw [hv] at z
          have dl : e.ss.length ≤ f := by
            have h1 := L.out
            have h2 := HST.out
            have h3 := HH.out.fits.1
            omega
          have dI : (0 : Int) ≤ (f : Int) - (e.ss.length : Int) := by omega
          have dJ : (f : Int) ≤ 65536 := by
            have h1 := L.out
            have h3 := HH.out.fits
            have h4 : rem left x.es ≤ tot x.es := rem_le _ _
            omega
          have HD := (show Hid _ from dl)
          unfold ptr at hen ⊢
          clear R2 U2 hc hlt F2 dl hlk2
          go_wp2_with fail
          go_roundw
          case rel => exact ⟨_, cn2, f - e.ss.length, by congr 1; have := HD.out; omega, by show _ = _; have h1 := L.out; have h2 := HST.out; have h3 := HD.out; omega, HR2.out, HB2.out⟩
          case measure => have := HMS.out; omega
    | some e0 =>
      rw [hf] at hlk
      simp only [Option.map_some, Option.getD_some] at hlk
      unfold ptr at hlk
      clear hf hfull hln
      go_enter Tryz.func52, Tryz.ntmps52
      go_wp2_with (at_range; refine rgM rfl _ 104 rfl 9 110 keyedS Tryz.underlying104 m x.es.length (mf x.es) (by rfl) HM.out ?_; intro w1 left cn r1 l1 b1)
      go_frame
      have R1 : Hid (RanF w1 9 m w.heap.size x.es.length (mf x.es) left cn) := r1
      have L1 : Hid (x.room + tot x.es = x.room + rem left x.es) := by
        show x.room + tot x.es = x.room + rem left x.es
        rw [rem_all (fun e he => ?_)]
        rw [l1 _ _ (nm_key (HH.out.fil e he).nm)]
        show ((fd x.es e.nm).map _).isSome = true
        rw [fd_of HH.out.ap he]
        rfl
      have HB1 : Hid (Below w.heap.size w w1) := b1
      have HML : Hid (m < w.heap.size) := HH.out.mp.lt
      clear r1 l1 b1 HM
      generalize hr : w.heap.size = r at *
      go_loopw [7] (fun i wx => ∃ (left : Lit → Bool) (cn f : Nat), i = .int .i64 (f : Int) ∧ Hid (f + tot x.es = x.room + rem left x.es) ∧ Hid (RanF wx 9 m r x.es.length (mf x.es) left cn) ∧ Hid (Below r w wx)) (fun _ wx => wx.rangeLeft m r)
      case atStart => exact ⟨left, cn, x.room, rfl, L1.out, R1.out, HB1.out⟩
      case round =>
        obtain ⟨left, cn, f, rfl, L, R, HBx⟩ := hrel
        go_wp2_with (at_next; refine nxM rfl _ rfl 9 keyedS m r x.es.length (mf x.es) left cn (by rfl) R.out ?_ ?_)
        · intro hl0
          have hf0 := L.out
          rw [rem_none hl0] at hf0
          have HBS2 : Hid (Bs wr v bs) := HBV.out.step (hr ▸ HBx.out)
          have HF0 : Hid (f = x.room - tot x.es) := (show f = x.room - tot x.es by omega)
          clear hf0
          go_wp2_with (go_at_call 81; refine (needed_ok v bs _ HBS2.out hl).mono ?_; rintro e w' ⟨rfl, rfl⟩)
          go_ret
          refine ⟨?_, by rw [hr]; exact HBx.out⟩
          rw [← HF0.out]
          simp
        · intro xk c kl w2 cn2 hkey hlk2 hc R2 hlt U2 hen
          obtain ⟨e, he, rfl, rfl, _⟩ := mf_some hc
          have HR2 : Hid (RanF w2 9 m r x.es.length (mf x.es) _ cn2) := R2
          have HB2 : Hid (Below r w w2) := HBx.out.trans (U2.below (by have := HBx.out.size; omega) (fun i (hi : i = r) => by omega))
          have HMS : Hid (w2.rangeLeft m r = cn2 ∧ wr.rangeLeft m r = cn ∧ cn2 < cn) := ⟨R2.left_eq, R.out.left_eq, hlt⟩
          have HST : Hid (rem left x.es = rem (fun z => left z && !z.sameKey (.string e.nm)) x.es + e.ss.length) := rem_step HH.out.ap he hlk2 (WideAt.sameKey_self (keyedS.key hkey))
          have F2 := (HH.out.step (hr ▸ HB2.out)).fil e he
          obtain ⟨a, cp, hv, hcp, hcm⟩ := F2.row.form
          have z := F2.blk.cell 0 (v := e.v) rfl
          rw [hv] at z
          have dl : e.ss.length ≤ f := by
            have h1 := L.out
            have h2 := HST.out
            have h3 := HH.out.fits.1
            omega
          have dI : (0 : Int) ≤ (f : Int) - (e.ss.length : Int) := by omega
          have dJ : (f : Int) ≤ 65536 := by
            have h1 := L.out
            have h3 := HH.out.fits
            have h4 : rem left x.es ≤ tot x.es := rem_le _ _
            omega
          have HD := (show Hid _ from dl)
          unfold ptr at hen ⊢
          clear R2 U2 hc hlt F2 dl hlk2
          go_wp2_with fail
          go_roundw
          case rel => exact ⟨_, cn2, f - e.ss.length, by congr 1; have := HD.out; omega, by show _ = _; have h1 := L.out; have h2 := HST.out; have h3 := HD.out; omega, HR2.out, HB2.out⟩
          case measure => have := HMS.out; omega
end Go.Proofs.YtkmdegmpffgplaaGreatDoor
/- disk IX: write: the sectors are appended, one by one. -/
namespace Go.Proofs.YtkmdegmpffgplaaGreatDoor
open Go.RowKit Go.Shelf Go.Maps pk
set_option linter.unusedVariables false
attribute [local go_sem] Oper.semAt_some

theorem VA.keptN {A B : World} {p : Nat} {cs : List Value} {T : TypeId} {row : Option Nat} (h : VA A p cs T) (hg : A.grownBy B row) (hr : ∀ r, row = some r → ∃ o, A.heap[r]? = some o ∧ o.isCells = false) : VA B p cs T := by
  refine ⟨(hg.block p h.lt (fun e => ?_)).trans h.blk⟩
  obtain ⟨o, ho, hc⟩ := hr p e.symm
  rw [h.blk] at ho
  cases ho
  simp [Obj.isCells] at hc
theorem Own.keptN {A W : World} {B : Nat} {v : Value} {ss : List (List Nat)} {row : Option Nat} (h : Own KS A B v ss) (hg : A.grownBy W row) (hr : ∀ r, row = some r → ∃ o, A.heap[r]? = some o ∧ o.isCells = false) : Own KS W B v ss := by
  refine h.blk fun g hv => hg.block g (h.lt g hv) (fun e => ?_)
  obtain ⟨o, ho, hc⟩ := hr g e.symm
  obtain ⟨cs, hcs⟩ := row_blk h hv
  rw [hcs] at ho
  cases ho
  simp [Obj.isCells] at hc
/-- between two rounds -/
structure WI (Wl : World) (B F0 : Nat) (e : Ent) (bs : List Nat) (pre : List Nat) (W : World) : Prop where
  ex : ∃ v', VA W e.q [v', .int .i64 e.sy] 116 ∧ Own KS W B v' (e.ss ++ pre.map (part bs)) ∧ (∀ g, v'.ownBlock = some g → e.v.ownBlock = some g ∨ Wl.heap.size ≤ g)
  box : VA W F0 [ptr e.q] 110
  but : But (XF e) Wl W
  kee : Kee Wl W
theorem WI.own (Wl : World) (B F0 : Nat) (e : Ent) (bs : List Nat) : OwnFrom Wl.heap.size (WI Wl B F0 e bs) := fun s A A' row h hg hr => by
  have hr2 : ∀ r, row = some r → ∃ o, A.heap[r]? = some o ∧ o.isCells = false := fun r e => (hr r e).2
  obtain ⟨v', h1, h2, h3⟩ := h.ex
  exact ⟨⟨v', h1.keptN hg hr2, h2.keptN hg hr2, h3⟩, h.box.keptN hg hr2,
    ⟨hg.os.trans h.but.os, hg.tape.trans h.but.tape, hg.output.trans h.but.output, Nat.le_trans h.but.size hg.size, fun i hi hx => (hg.block i (Nat.lt_of_lt_of_le hi h.but.size) (fun e => by have := (hr i e.symm).1; omega)).trans (h.but.block i hi hx)⟩,
    kee_own _ Wl s A A' row h.kee hg hr⟩
theorem keeps_but {B : Nat} {Y : Nat → Prop} {W W' : World} (h : But Y W W') (hy : ∀ i, Y i → ∀ o, W.heap[i]? = some o → o.isCells = true) : KeepsFrom B W W' :=
  ⟨h.size, fun k o _ hk ho => (h.block k (hlt_of hk) (fun y => by have := hy k y o hk; rw [this] at ho; cases ho)).trans hk⟩
theorem kee_but {Y : Nat → Prop} {W W' : World} (h : But Y W W') (hy : ∀ i, Y i → ∀ cs T z, W.heap[i]? = some (Obj.cells cs T z) → Dt T) : Kee W W' :=
  ⟨h.os, h.tape, h.output, h.size, fun i cs T z e hT => (h.block i (hlt_of e) (fun y => hT (hy i y cs T z e))).trans e⟩
theorem quiet_ld {ops : Array Oper} {C : World → Prop} {Q : Act → Prop} {rest : List Oper} {o : Oper} {a : Act} (hgd : o.guard = none) (t : TypeId) (x : Operand) (ho : o.op = .load t x) (p : Nat) (hx : a.eval x = .pointer (some ⟨p, 0, none⟩)) (v : Value)
    (hrun : ∀ w', C w' → (loadVar t ⟨p, 0, none⟩).run Tryz.prog w' = .ok v w') (k : wpQuiet Tryz.prog ops C Q rest (a.put o.dst v)) : wpQuiet Tryz.prog ops C Q (o :: rest) a := by
  refine wpQuiet_step (fun K hK => ?_)
  rw [if_pos (by simp [Region.wanted, hgd])]
  refine ⟨v, fun w' hw => ?_, hK _ k⟩
  unfold Oper.quietAt execOp
  simp only [ho, hx, Instr.loadAt, Instr.sureAddr, Sem.run_bind, Sem.run_pure, Result.andThen_ok, hrun w' hw]
  exact ⟨rfl, rfl⟩
theorem stAIn {F : Fence} {n : Nat} {w : World} {ops : Array Oper} {rest : List Oper} {o : Oper} {a : Act} {Q : Exit → Act → World → Prop} (hgd : o.guard = none) (t : TypeId) (x y : Operand) (ho : o.op = .store t x y)
    (p : Nat) (hx : a.eval x = .pointer (some ⟨p, 0, none⟩)) (cs ds : List Value) (hy : a.eval y = .agg ds.toArray) (T : TypeId) (h : VA w p cs T) (hi : (Tryz.prog.info? t).map (·.size) = some ds.length) (hl : cs.length = ds.length) (h1 : ∀ v ∈ ds, v.oneCell' = true)
    (k : ∀ w', VA w' p ds T → Upd p w w' → wpListIn F n Tryz.prog ops Q rest (a.put o.dst undef) w') : wpListIn F n Tryz.prog ops Q (o :: rest) a w := by
  refine wpListIn_plain hgd fun K hK' => ?_
  have hrun := run_storeVar_row (P := Tryz.prog) w p T t cs.toArray ds.toArray h.blk (by simpa using hi) (by simpa using hl) (Array.all_eq_true_iff_forall_mem.2 (fun v hv => h1 v (by simpa using hv)))
  unfold Oper.wpIn
  refine ⟨by simp [Oper.about, ho], ?_⟩
  rw [Oper.semAt_plain F _ _ (by rw [ho]; intro c hc'; cases hc')]
  unfold execOp
  simp only [ho, hx, hy, Instr.storeAt, Instr.sureAddr, Sem.run_bind, Sem.run_pure, Result.andThen_ok, hrun]
  exact hK' _ _ (k _ ⟨setRow_heap w p _ _ _ _ h.blk⟩ (upd_setRow w p _))
theorem zS : (Tryz.prog.info? 143).map (fun i => (i.zero, i.size)) = some (some (.agg (List.replicate 32 (Value.int .u8 0)).toArray), 32) := by kernel_rfl
theorem fillS (s : List Nat) : Instr.fill (fun i => some (i * 32, 32)) ((Array.range (1 * 32)).map ((Value.agg (List.replicate 32 (Value.int .u8 0)).toArray).cells[· % (Value.agg (List.replicate 32 (Value.int .u8 0)).toArray).cells.size]!)) [(0, Value.agg (sect s).toArray)] = some (sect s).toArray := by kernel_rfl
theorem bldS (s : List Nat) (w : World) : (Instr.buildSlice 114 1 #[(0, .agg (sect s).toArray)]).run Tryz.prog w = .ok (.slice (some ⟨w.heap.size, 0, none⟩) 1 1) (w.alloc (.cells (sect s).toArray 143)) := by
  obtain ⟨i, hi, hz⟩ := Option.map_eq_some_iff.1 zS
  simp only [Prod.mk.injEq] at hz
  refine run_buildSlice w _ 143 1 _ _ i _ Tryz.underlying114 hi hz.1 (by rw [hz.2]; decide) (by rw [hz.2]; decide) ?_
  rw [hz.2]
  exact fillS s
theorem bldSw {w : World} {o : Oper} {a : Act} {K : Act → World → Prop} {Q : Exit → Act → World → Prop} (z : Operand) (ho : o.op = .buildSlice 114 1 #[(0, z)]) (s : List Nat) (hz : a.eval z = .agg (sect s).toArray)
    (h : K (a.put o.dst (.slice (some ⟨w.heap.size, 0, none⟩) 1 1)) (w.alloc (.cells (sect s).toArray 143))) : o.wp Tryz.prog a w K Q := by
  obtain ⟨i, hi, hz2⟩ := Option.map_eq_some_iff.1 zS
  simp only [Prod.mk.injEq] at hz2
  refine wp_buildSlice 114 143 1 _ ho _ i _ Tryz.underlying114 hi hz2.1 (by rw [hz2.2]; decide) (by rw [hz2.2]; decide) ?_ h
  rw [hz2.2]
  simp only [List.map_toArray, List.map_cons, List.map_nil, hz]
  exact fillS s
/-- append of one sector -/
theorem appKS {w : World} {y : Nat → Option Bool} {o : Oper} {a : Act} {Q : Exit → Act → World → Prop} {KK : Act → World → Prop} {k0 : Prop} (hgd : Region.wanted o y = true) (s x : Operand)
    (ho : o.op = .call { callee := .builtin .append, args := #[s, x], argTypes := #[114, 114] })
    (B : Nat) (xs : List (List Nat)) (d : List Nat) (v : Value) (g : Nat) (hs : a.eval s = v) (hx : a.eval x = .slice (some ⟨g, 0, none⟩) 1 1)
    (hown : Own KS w B v xs) (hV : VA w g (sect d) 143) (hB : B ≤ w.heap.size) (hl : xs.length + 1 ≤ 100000)
    (h : ∀ v' w', Own KS w' B v' (xs ++ [d]) → w.grownBy w' v.ownBlock → (v'.ownBlock = v.ownBlock ∨ v'.ownBlock = some w.heap.size) → KK (a.put o.dst v') w') :
    if Region.wanted o y then o.wp Tryz.prog a w KK Q else k0 := by
  rw [if_pos hgd]
  obtain ⟨i0, z, hi, hz0, hz1, hz2, hz3⟩ := KS.info
  obtain ⟨v', w', hr, h2, h3, h4, h5⟩ := run_append_own_at (P := Tryz.prog) w B 114 o.type 143 i0 z 32 32 KS.und hi hz0 hz1 hz2 hz3 (by decide) v xs.length (KS.cells xs) hown.own ⟨g, 0, none⟩ 1 1 (sect d) (sect_len d) (fun j u hj => by rw [Go.WideShapes.add_plain, Nat.zero_add]; exact hV.cell j hj) (sect_one d) (by unfold maxLen; omega) (by omega) hB
  unfold Oper.wp execOp
  simp only [ho, resolve, invoke, builtin, Sem.run_bind, Sem.run_pure, Result.andThen_ok, List.map_toArray, List.map_cons, List.map_nil, hs, hx, hr]
  refine h v' w' ⟨?_⟩ h3 h5
  have e1 : KS.cells (xs ++ [d]) = KS.cells xs ++ sect d := by
    rw [KS.cells_app]
    show KS.cells xs ++ (sect d ++ []) = _
    rw [List.append_nil]
  rw [List.length_append, List.length_singleton, e1]
  exact h2
/-- a drawn region of a round, what is loaded held by S -/
theorem region_round_held {L : List Oper} {Q : Exit → Act → World → Prop} {n l id : Nat} {a : Act} {w : World} (S : World → Prop) (hm : Tryz.prog.follows .mixedOrders = true) (hd : noDefer L.toArray = true) (hq : ¬ LetsOut Q) (hS : S w.drew)
    (h : S w.drew → wpAnyH Tryz.prog .any L.toArray (NoPanic Q) S L.toArray.size (Array.replicate L.toArray.size false) a w.drew) : (Code.region id L.toArray true).wpIn (Fence.wide.inRound l) n Tryz.prog Q a w :=
  wpIn_mono (region_round (Q := NoPanic Q) hm hd (fun ⟨a, w, h⟩ => hq ⟨a, w, h⟩) (wpAny_of_held _ _ _ _ (h hS))) NoPanic.imp
theorem wantIf {o : Oper} {y : Nat → Option Bool} {a : Act} {w : World} {K : Act → World → Prop} {Q : Exit → Act → World → Prop} {k0 : Prop} (h : Region.wanted o y = true) (k : o.wp Tryz.prog a w K Q) : if Region.wanted o y = true then o.wp Tryz.prog a w K Q else k0 := by
  rw [if_pos h]
  exact k
/-- the files, without where they lie -/
def ab (es : List Ent) : List (List UInt8 × List (List Nat) × Nat) := es.map fun e => (e.nm, e.ss, e.sy)
/-- .. with sectors appended to one -/
def apd : List (List UInt8 × List (List Nat) × Nat) → List UInt8 → List (List Nat) → List (List UInt8 × List (List Nat) × Nat)
  | [], l, ps => [(l, ps, 0)]
  | (n, ss, sy) :: t, l, ps => if n = l then (n, ss ++ ps, sy) :: t else (n, ss, sy) :: apd t l ps
/-- the sectors of bytes -/
def parts (bs : List Nat) : List (List Nat) := (List.range (cnt bs.length)).map (part bs)
end Go.Proofs.YtkmdegmpffgplaaGreatDoor
