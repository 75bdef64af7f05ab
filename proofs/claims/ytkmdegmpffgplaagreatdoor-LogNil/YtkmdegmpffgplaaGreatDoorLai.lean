/- disk VIII: find; fits. -/
import Derived.Test.YtkmdegmpffgplaaGreatDoorLah
import Derived.Test.YtkmdegmpffgplaaGreatDoorProg
import Derived.WalkKit
import Derived.Deep.RegionHeld3
namespace Go.Proofs.YtkmdegmpffgplaaGreatDoor
open Go.RowKit Go.Shelf Go.Maps pk
set_option linter.unusedVariables false

theorem find_bad (w : World) (v : Value) (s : ByteArray) (hs : s.size ≤ 1048576) (hn : isNm s.data.toList = false) :
    Calls Tryz.prog 55 #[v, .string s] w fun e w' => e = .returned (.tuple #[.pointer none, .int .i64 1]) ∧ w' = w := by
  have HC := (show Hid _ from fun w => isName_ok s w (by omega))
  go_enter Tryz.func55, Tryz.ntmps55
  go_wp2_with (go_at_call 51; refine (HC.out _).mono ?_; rintro e w' ⟨rfl, rfl⟩; rw [hn])
  refine bodyPost_ret (v := .tuple #[.pointer none, .int .i64 1]) (by simp [results, Tryz.results55, go_sem]) rfl ?_
  exact ⟨rfl, rfl⟩
theorem find_none (w : World) (B p m : Nat) (x : DK) (h : Dsk w B p m x) (s : ByteArray) (hs : s.size ≤ 1048576) (hn : isNm s.data.toList = true) (hf : fd x.es s.data.toList = none) :
    Calls Tryz.prog 55 #[ptr p, .string s] w fun e w' => e = .returned (.tuple #[.pointer none, .int .i64 7]) ∧ w' = w := by
  have HC := (show Hid _ from fun w => isName_ok s w (by omega))
  have y := h.va.cell 1 (v := .map (some m)) rfl
  have hlk := h.look hs
  rw [hf] at hlk
  simp only [Option.map_none, Option.getD_none] at hlk
  clear h
  unfold ptr
  go_enter Tryz.func55, Tryz.ntmps55
  go_wp2_with (go_at_call 51; refine (HC.out _).mono ?_; rintro e w' ⟨rfl, rfl⟩; rw [hn])
  refine bodyPost_ret (v := .tuple #[.pointer none, .int .i64 7]) (by simp [results, Tryz.results55, go_sem]) rfl ?_
  exact ⟨rfl, rfl⟩
theorem find_some (w : World) (B p m : Nat) (x : DK) (h : Dsk w B p m x) (s : ByteArray) (hs : s.size ≤ 1048576) (hn : isNm s.data.toList = true) (f : Ent) (hf : fd x.es s.data.toList = some f) :
    Calls Tryz.prog 55 #[ptr p, .string s] w fun e w' => e = .returned (.tuple #[ptr f.q, .int .i64 0]) ∧ w' = w := by
  have HC := (show Hid _ from fun w => isName_ok s w (by omega))
  have y := h.va.cell 1 (v := .map (some m)) rfl
  have hlk := h.look hs
  rw [hf] at hlk
  simp only [Option.map_some, Option.getD_some] at hlk
  clear h
  unfold ptr at *
  go_enter Tryz.func55, Tryz.ntmps55
  go_wp2_with (go_at_call 51; refine (HC.out _).mono ?_; rintro e w' ⟨rfl, rfl⟩; rw [hn])
  refine bodyPost_ret (v := .tuple #[.pointer (some ⟨f.q, 0, none⟩), .int .i64 0]) (by simp [results, Tryz.results55, go_sem]) rfl ?_
  exact ⟨rfl, rfl⟩
theorem rem_le (left : Lit → Bool) (es : List Ent) : rem left es ≤ tot es := by
  induction es with
  | nil => exact Nat.le_refl _
  | cons e es ih => simp only [rem, tot]; split <;> omega
/-- is there room? -/
def fit (x : DK) (l : List UInt8) (k : Nat) : Bool := !((fd x.es l).isNone && decide (x.es.length = 64)) && decide (k ≤ x.room - tot x.es)
set_option maxRecDepth 100000 in
theorem fits_ok (w : World) (B p m : Nat) (x : DK) (h : Dsk w B p m x) (s : ByteArray) (hs : s.size ≤ 1048576) (v : Value) (bs : List Nat) (hb : Bs w v bs) (hl : bs.length ≤ 140737488355328) :
    Calls Tryz.prog 52 #[ptr p, .string s, v] w fun e w' => e = .returned (.bool (fit x s.data.toList (cnt bs.length))) ∧ Below w.heap.size w w' := by
  have y0 := h.va.cell 0 (v := .int .i64 x.room) rfl
  have y := h.va.cell 1 (v := .map (some m)) rfl
  have hlk := h.look hs
  have hln := h.lenRun
  have HH := (show Hid _ from h)
  have HBV := (show Hid _ from hb)
  have hpl := h.va.lt
  have hlim := h.fits
  unfold ptr
  clear h hb
  by_cases hfull : fd x.es s.data.toList = none ∧ x.es.length = 64
  · rw [hfull.1] at hlk
    rw [hfull.2] at hln
    simp only [Option.map_none, Option.getD_none] at hlk
    go_enter Tryz.func52, Tryz.ntmps52
    go_wp2_with fail
    go_ret
    exact ⟨by unfold fit; rw [hfull.1, hfull.2]; rfl, Below.refl _ _⟩
  · have hfit : fit x s.data.toList (cnt bs.length) = decide (cnt bs.length ≤ x.room - tot x.es) := by
      unfold fit
      cases hf : fd x.es s.data.toList with
      | none =>
        have : ¬ x.es.length = 64 := fun e => hfull ⟨hf, e⟩
        simp [this]
      | some e => simp
    rw [hfit]
    clear hfit
    have HM := (show Hid _ from HH.out.mp)
    cases hf : fd x.es s.data.toList with
    | none =>
      rw [hf] at hlk
      simp only [Option.map_none, Option.getD_none] at hlk
      have hne : ((x.es.length : Int) == 64) = false := by
        cases hh : ((x.es.length : Int) == 64)
        · rfl
        · exact absurd ⟨hf, by have := beq_iff_eq.1 hh; omega⟩ hfull
      have hne2 : decide ((x.es.length : Int) = 64) = false := decide_eq_false (fun e => hfull ⟨hf, by omega⟩)
      have hne3 : decide (x.es.length = 64) = false := decide_eq_false (fun e => hfull ⟨hf, e⟩)
      clear hf hfull
      go_enter Tryz.func52, Tryz.ntmps52
      go_wp2_with (at_range; refine rgM rfl _ 104 rfl 9 110 keyedS Tryz.underlying104 m x.es.length (mf x.es) (by rfl) HM.out ?_; intro w1 left cn r1 l1 b1)
      go_frame
      have R1 : Hid (RanF w1 9 m w.heap.size x.es.length (mf x.es) left cn) := r1
      have L1 : Hid (x.room + tot x.es = x.room + rem left x.es) := by
        show x.room + tot x.es = x.room + rem left x.es
        rw [rem_all (fun e he => ?_)]
        rw [l1 _ _ (nm_key (HH.out.fil e he).nm)]
        show ((fd x.es e.nm).map _).isSome = true
        rw [fd_of HH.out.ap he]
        rfl
      have HB1 : Hid (Below w.heap.size w w1) := b1
      have HML : Hid (m < w.heap.size) := HH.out.mp.lt
      clear r1 l1 b1 HM
      generalize hr : w.heap.size = r at *
      go_loopw [7] (fun i wx => ∃ (left : Lit → Bool) (cn f : Nat), i = .int .i64 (f : Int) ∧ Hid (f + tot x.es = x.room + rem left x.es) ∧ Hid (RanF wx 9 m r x.es.length (mf x.es) left cn) ∧ Hid (Below r w wx)) (fun _ wx => wx.rangeLeft m r)
      case atStart => exact ⟨left, cn, x.room, rfl, L1.out, R1.out, HB1.out⟩
      case round =>
        obtain ⟨left, cn, f, rfl, L, R, HBx⟩ := hrel
        go_wp2_with (at_next; refine nxM rfl _ rfl 9 keyedS m r x.es.length (mf x.es) left cn (by rfl) R.out ?_ ?_)
        · intro hl0
          have hf0 := L.out
          rw [rem_none hl0] at hf0
          have HBS2 : Hid (Bs wr v bs) := HBV.out.step (hr ▸ HBx.out)
          have HF0 : Hid (f = x.room - tot x.es) := (show f = x.room - tot x.es by omega)
          clear hf0
          go_wp2_with (go_at_call 81; refine (needed_ok v bs _ HBS2.out hl).mono ?_; rintro e w' ⟨rfl, rfl⟩)
          go_ret
          refine ⟨?_, by rw [hr]; exact HBx.out⟩
          rw [← HF0.out]
          simp
        · intro xk c kl w2 cn2 hkey hlk2 hc R2 hlt U2 hen
          obtain ⟨e, he, rfl, rfl, _⟩ := mf_some hc
          have HR2 : Hid (RanF w2 9 m r x.es.length (mf x.es) _ cn2) := R2
          have HB2 : Hid (Below r w w2) := HBx.out.trans (U2.below (by have := HBx.out.size; omega) (fun i (hi : i = r) => by omega))
          have HMS : Hid (w2.rangeLeft m r = cn2 ∧ wr.rangeLeft m r = cn ∧ cn2 < cn) := ⟨R2.left_eq, R.out.left_eq, hlt⟩
          have HST : Hid (rem left x.es = rem (fun z => left z && !z.sameKey (.string e.nm)) x.es + e.ss.length) := rem_step HH.out.ap he hlk2 (WideAt.sameKey_self (keyedS.key hkey))
          have F2 := (HH.out.step (hr ▸ HB2.out)).fil e he
          obtain ⟨a, cp, hv, hcp, hcm⟩ := F2.row.form
          have z := F2.blk.cell 0 (v := e.v) rfl
          rw [hv] at z
          have dl : e.ss.length ≤ f := by
            have h1 := L.out
            have h2 := HST.out
            have h3 := HH.out.fits.1
            omega
          have dI : (0 : Int) ≤ (f : Int) - (e.ss.length : Int) := by omega
          have dJ : (f : Int) ≤ 65536 := by
            have h1 := L.out
            have h3 := HH.out.fits
            have h4 : rem left x.es ≤ tot x.es := rem_le _ _
            omega
          have HD := (show Hid _ from dl)
          unfold ptr at hen ⊢
          clear R2 U2 hc hlt F2 dl hlk2
          go_wp2_with fail
          go_roundw
          case rel => exact ⟨_, cn2, f - e.ss.length, by congr 1; have := HD.out; omega, by show _ = _; have h1 := L.out; have h2 := HST.out; have h3 := HD.out; omega, HR2.out, HB2.out⟩
          case measure => have := HMS.out; omega
    | some e0 =>
      rw [hf] at hlk
      simp only [Option.map_some, Option.getD_some] at hlk
      unfold ptr at hlk
      clear hf hfull hln
      go_enter Tryz.func52, Tryz.ntmps52
      go_wp2_with (at_range; refine rgM rfl _ 104 rfl 9 110 keyedS Tryz.underlying104 m x.es.length (mf x.es) (by rfl) HM.out ?_; intro w1 left cn r1 l1 b1)
      go_frame
      have R1 : Hid (RanF w1 9 m w.heap.size x.es.length (mf x.es) left cn) := r1
      have L1 : Hid (x.room + tot x.es = x.room + rem left x.es) := by
        show x.room + tot x.es = x.room + rem left x.es
        rw [rem_all (fun e he => ?_)]
        rw [l1 _ _ (nm_key (HH.out.fil e he).nm)]
        show ((fd x.es e.nm).map _).isSome = true
        rw [fd_of HH.out.ap he]
        rfl
      have HB1 : Hid (Below w.heap.size w w1) := b1
      have HML : Hid (m < w.heap.size) := HH.out.mp.lt
      clear r1 l1 b1 HM
      generalize hr : w.heap.size = r at *
      go_loopw [7] (fun i wx => ∃ (left : Lit → Bool) (cn f : Nat), i = .int .i64 (f : Int) ∧ Hid (f + tot x.es = x.room + rem left x.es) ∧ Hid (RanF wx 9 m r x.es.length (mf x.es) left cn) ∧ Hid (Below r w wx)) (fun _ wx => wx.rangeLeft m r)
      case atStart => exact ⟨left, cn, x.room, rfl, L1.out, R1.out, HB1.out⟩
      case round =>
        obtain ⟨left, cn, f, rfl, L, R, HBx⟩ := hrel
        go_wp2_with (at_next; refine nxM rfl _ rfl 9 keyedS m r x.es.length (mf x.es) left cn (by rfl) R.out ?_ ?_)
        · intro hl0
          have hf0 := L.out
          rw [rem_none hl0] at hf0
          have HBS2 : Hid (Bs wr v bs) := HBV.out.step (hr ▸ HBx.out)
          have HF0 : Hid (f = x.room - tot x.es) := (show f = x.room - tot x.es by omega)
          clear hf0
          go_wp2_with (go_at_call 81; refine (needed_ok v bs _ HBS2.out hl).mono ?_; rintro e w' ⟨rfl, rfl⟩)
          go_ret
          refine ⟨?_, by rw [hr]; exact HBx.out⟩
          rw [← HF0.out]
          simp
        · intro xk c kl w2 cn2 hkey hlk2 hc R2 hlt U2 hen
          obtain ⟨e, he, rfl, rfl, _⟩ := mf_some hc
          have HR2 : Hid (RanF w2 9 m r x.es.length (mf x.es) _ cn2) := R2
          have HB2 : Hid (Below r w w2) := HBx.out.trans (U2.below (by have := HBx.out.size; omega) (fun i (hi : i = r) => by omega))
          have HMS : Hid (w2.rangeLeft m r = cn2 ∧ wr.rangeLeft m r = cn ∧ cn2 < cn) := ⟨R2.left_eq, R.out.left_eq, hlt⟩
          have HST : Hid (rem left x.es = rem (fun z => left z && !z.sameKey (.string e.nm)) x.es + e.ss.length) := rem_step HH.out.ap he hlk2 (WideAt.sameKey_self (keyedS.key hkey))
          have F2 := (HH.out.step (hr ▸ HB2.out)).fil e he
          obtain ⟨a, cp, hv, hcp, hcm⟩ := F2.row.form
          have z := F2.blk.cell 0 (v := e.v) rfl
          rw [hv] at z
          have dl : e.ss.length ≤ f := by
            have h1 := L.out
            have h2 := HST.out
            have h3 := HH.out.fits.1
            omega
          have dI : (0 : Int) ≤ (f : Int) - (e.ss.length : Int) := by omega
          have dJ : (f : Int) ≤ 65536 := by
            have h1 := L.out
            have h3 := HH.out.fits
            have h4 : rem left x.es ≤ tot x.es := rem_le _ _
            omega
          have HD := (show Hid _ from dl)
          unfold ptr at hen ⊢
          clear R2 U2 hc hlt F2 dl hlk2
          go_wp2_with fail
          go_roundw
          case rel => exact ⟨_, cn2, f - e.ss.length, by congr 1; have := HD.out; omega, by show _ = _; have h1 := L.out; have h2 := HST.out; have h3 := HD.out; omega, HR2.out, HB2.out⟩
          case measure => have := HMS.out; omega
end Go.Proofs.YtkmdegmpffgplaaGreatDoor
/- A region that draws its order: an operation that yields one value wherever S holds is taken first; the frame is written by its slot. -/
namespace Go.Proofs.YtkmdegmpffgplaaGreatDoor
set_option linter.unusedVariables false
theorem takeD {P : Program} {ops : Array Oper} {Q : Exit → Act → World → Prop} {md : Region.Mode} {S : World → Prop} (i d : Nat) (v : Value) {oi : Oper} {fuel : Nat} {listed : Array Bool} {a : Act} {w : World} (hi : ops[i]? = some oi) (hd : oi.dst = some d)
    (hs : Region.noSelect ops = true) (hf : Region.free md ops listed i = true) (hr : (Region.ready md ops listed).contains i = true)
    (hQ : ∀ c a w, Q (.panic c) (a.put (some d) v) w → Q (.panic c) a w) (hy : YieldsIf P ops S oi v a) (hS : S w)
    (h : wpAnyH P md ops Q S fuel (listed.setIfInBounds i true) (a.put (some d) v) w) : wpAnyH P md ops Q S (fuel + 1) listed a w := by
  rw [← hd] at h hQ
  exact wpAnyH_take hi hs hf hr hQ hy hS h
end Go.Proofs.YtkmdegmpffgplaaGreatDoor
