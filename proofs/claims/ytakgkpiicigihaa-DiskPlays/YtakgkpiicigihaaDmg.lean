/- disk XLV: the document's operate; Sync, Truncate, Rename, Remove. -/
import Derived.Test.YtakgkpiicigihaaDmf
namespace Go.Proofs.Ytakgkpiicigihaa
open Go.RowKit Go.Maps Go.Sort Go.Shelf pk
set_option linter.unusedVariables false
set_option linter.unusedSimpArgs false

/-- the document's disk without where it lies -/
structure RS where
  fs : List T3
  room : Nat
  off : Bool
  armed : Nat
  ops : Nat
  last : Nat
  a : List UInt8
  b : List UInt8
  n : Nat
def rs (y : RK) : RS := ⟨ra y.fs, y.room, y.off, y.armed, y.ops, y.last, y.a, y.b, y.n⟩
def lkA (fs : List T3) (l : List UInt8) : Option T3 := fs.find? (fun t => t.1 == l)
def carA (o : POp) (t : T3) (fs : List T3) : List T3 :=
  if o.k = 1 then putA (o.a, t.2.1, List.replicate t.2.2.length true) false fs
  else if o.k = 2 then putA (o.a, t.2.1.take (32 * min o.n t.2.2.length), List.replicate (min o.n t.2.2.length) true) false fs
  else if o.k = 3 then putA (o.b, t.2.1, t.2.2) false (fs.filter (fun g => decide (g.1 ≠ o.a)))
  else fs.filter (fun g => decide (g.1 ≠ o.a))
def begS (x : RS) : RS := { x with ops := x.ops + 1, armed := x.armed - 1, off := decide (x.armed = 1) }
def rop (o : POp) (x : RS) : Nat × RS :=
  if (isNm o.a && (decide (o.k ≠ 3) || isNm o.b)) = false then (1, x)
  else match lkA x.fs o.a with
  | none => (7, x)
  | some t => if x.off then (18, x) else if (begS x).off then (18, { begS x with last := o.k, a := o.a, b := o.b, n := o.n }) else (0, { begS x with fs := carA o t x.fs })
theorem lkA_none {fs : List RF} {l : List UInt8} (h : rix fs l = none) : lkA (ra fs) l = none := by
  unfold rix at h
  unfold lkA ra
  rw [List.find?_map, List.find?_eq_none.2]
  · rfl
  · intro f hf
    have := List.findIdx?_eq_none_iff.1 h f hf
    simpa using this
theorem lkA_some {fs : List RF} {l : List UInt8} {i : Nat} (h : rix fs l = some i) : ∃ x, fs[i]? = some x ∧ x.nm = l ∧ lkA (ra fs) l = some (x.nm, x.bs, x.ks) := by
  unfold rix at h
  obtain ⟨h1, h2, h3⟩ := List.findIdx?_eq_some_iff_getElem.1 h
  refine ⟨fs[i], List.getElem?_eq_getElem h1, by simpa using h2, ?_⟩
  unfold lkA ra
  rw [List.find?_map]
  have : fs.find? ((fun t : T3 => t.1 == l) ∘ fun f => (f.nm, f.bs, f.ks)) = some fs[i] := by
    rw [List.find?_eq_some_iff_getElem]
    refine ⟨by simpa using h2, i, h1, rfl, fun j hj => ?_⟩
    have := h3 j hj
    simpa using this
  rw [this]
  rfl
theorem rop_bad {o : POp} {x : RS} (h : (isNm o.a && (decide (o.k ≠ 3) || isNm o.b)) = false) : rop o x = (1, x) := by unfold rop; rw [if_pos h]
theorem rop_none {o : POp} {x : RS} (h : (isNm o.a && (decide (o.k ≠ 3) || isNm o.b)) = true) (hf : lkA x.fs o.a = none) : rop o x = (7, x) := by unfold rop; rw [if_neg (by rw [h]; simp), hf]
theorem rop_some {o : POp} {x : RS} (h : (isNm o.a && (decide (o.k ≠ 3) || isNm o.b)) = true) {t : T3} (hf : lkA x.fs o.a = some t) : rop o x = if x.off then (18, x) else if (begS x).off then (18, { begS x with last := o.k, a := o.a, b := o.b, n := o.n }) else (0, { begS x with fs := carA o t x.fs }) := by unfold rop; rw [if_neg (by rw [h]; simp), hf]
theorem RLv.same {w w' : World} {B q : Nat} {fv : Value} {y : RK} (h : RD w B q fv y) (k : Below w.heap.size w w') : RLv w w' B q y := ⟨⟨fv, h.step k⟩, KeR.bel k, k.mono h.lt⟩
theorem RLv.trans {a b c : World} {B q : Nat} {y z : RK} (h : RLv a b B q y) (k : RLv b c B q z) : RLv a c B q z := ⟨k.1, h.2.1.trans k.2.1, h.2.2.trans k.2.2⟩
set_option maxRecDepth 100000 in
set_option maxHeartbeats 2000000 in
theorem operate_sync (w : World) (B q : Nat) (fv : Value) (y : RK) (h : RD w B q fv y) (s : ByteArray) (hs : s.size ≤ 9223372036854775807) (ho : y.ops ≤ 4611686018427387904) (hl : y.armed ≤ 9223372036854775807) :
    Calls Try.prog 60 #[ptr q, .int .i64 1, .string s, .string ⟨#[]⟩, .int .i64 0] w fun r w' => ∃ y', r = .returned (.int .i64 ((rop ⟨1, s.data.toList, [], 0⟩ (rs y)).1 : Nat)) ∧ rs y' = (rop ⟨1, s.data.toList, [], 0⟩ (rs y)).2 ∧ RLv w w' B q y' := by
  have HH := (show Hid _ from h)
  clear h
  have hp : (ptr q) = .pointer (some ⟨q, 0, none⟩) := rfl
  rw [hp]
  cases hna : isNm s.data.toList with
  | false =>
    rw [rop_bad (o := ⟨1, s.data.toList, [], 0⟩) (by show (isNm s.data.toList && _) = false; rw [hna]; rfl)]
    go_enter Try.func60, Try.ntmps60
    go_wp2_with (go_at_call 55; refine (rname_ok s _ hs).mono ?_; rintro e wn ⟨rfl, bn⟩; rw [hna])
    go_ret
    exact ⟨y, rfl, rfl, RLv.same HH.out bn⟩
  | true =>
    cases hix : rix y.fs s.data.toList with
    | none =>
      rw [rop_none (o := ⟨1, s.data.toList, [], 0⟩) (by show (isNm s.data.toList && (decide (1 ≠ 3) || isNm [])) = true; rw [hna]; rfl) (lkA_none hix)]
      have HIX : Hid (rixI y.fs s.data.toList = -1) := (show rixI y.fs s.data.toList = -1 by unfold rixI; rw [hix])
      go_enter Try.func60, Try.ntmps60
      go_wp2_with fail
      refine (rname_ok s _ hs).mono ?_
      rintro e wn ⟨rfl, bn⟩
      rw [hna]
      have HBn : Hid (Below w.heap.size w wn) := bn
      clear bn
      go_wp2_with fail
      refine (rfind_ok _ B q _ y (HH.out.step HBn.out) s).mono ?_
      rintro e wf ⟨rfl, bf⟩
      rw [HIX.out]
      have HBf : Hid (Below w.heap.size w wf) := HBn.out.trans (bf.mono HBn.out.size)
      clear bf
      go_wp2_with fail
      go_ret
      exact ⟨y, rfl, rfl, RLv.same HH.out HBf.out⟩
    | some i =>
      obtain ⟨x, hx, hxn, hlk⟩ := lkA_some hix
      rw [rop_some (o := ⟨1, s.data.toList, [], 0⟩) (by show (isNm s.data.toList && (decide (1 ≠ 3) || isNm [])) = true; rw [hna]; rfl) hlk]
      have HIX : Hid (rixI y.fs s.data.toList = (i : Int)) := (show rixI y.fs s.data.toList = (i : Int) by unfold rixI; rw [hix])
      cases hof : y.off with
      | true =>
        rw [if_pos (show (rs y).off = true from hof)]
        go_enter Try.func60, Try.ntmps60
        go_wp2_with fail
        refine (rname_ok s _ hs).mono ?_
        rintro e wn ⟨rfl, bn⟩
        rw [hna]
        have HBn : Hid (Below w.heap.size w wn) := bn
        clear bn
        go_wp2_with fail
        refine (rfind_ok _ B q _ y (HH.out.step HBn.out) s).mono ?_
        rintro e wf ⟨rfl, bf⟩
        rw [HIX.out]
        have HBf : Hid (Below w.heap.size w wf) := HBn.out.trans (bf.mono HBn.out.size)
        clear bf
        have y2 := (HH.out.step HBf.out).va.cell 2 (v := .bool y.off) rfl
        rw [hof] at y2
        go_wp2_with fail
        go_ret
        exact ⟨y, rfl, rfl, RLv.same HH.out HBf.out⟩
      | false =>
        rw [if_neg (show ¬ (rs y).off = true by show ¬ y.off = true; rw [hof]; simp)]
        by_cases hg : (begS (rs y)).off = true
        · rw [if_pos hg]
          have hg' : (rbeg y).off = true := hg
          go_enter Try.func60, Try.ntmps60
          go_wp2_with fail
          refine (rname_ok s _ hs).mono ?_
          rintro e wn ⟨rfl, bn⟩
          rw [hna]
          have HBn : Hid (Below w.heap.size w wn) := bn
          clear bn
          go_wp2_with fail
          refine (rfind_ok _ B q _ y (HH.out.step HBn.out) s).mono ?_
          rintro e wf ⟨rfl, bf⟩
          rw [HIX.out]
          have HBf : Hid (Below w.heap.size w wf) := HBn.out.trans (bf.mono HBn.out.size)
          clear bf
          have y2 := (HH.out.step HBf.out).va.cell 2 (v := .bool y.off) rfl
          rw [hof] at y2
          go_wp2_with fail
          refine (goes_ok wf B q _ y (HH.out.step HBf.out) hof ho hl).mono ?_
          rintro e wg ⟨rfl, hD, hkr, hbl⟩
          rw [hg']
          have V := hD.va
          have z5 := V.cell 5 (v := .int .i64 (rbeg y).last) rfl
          have z6 := V.cell 6 (v := .string ⟨(rbeg y).a.toArray⟩) rfl
          have z7 := V.cell 7 (v := .string ⟨(rbeg y).b.toArray⟩) rfl
          have z8 := V.cell 8 (v := .int .i64 (rbeg y).n) rfl
          have f5 := V.free 5
          have f6 := V.free 6
          have f7 := V.free 7
          have f8 := V.free 8
          have HD := (show Hid _ from hD)
          have HV := (show Hid _ from V)
          have HKR : Hid (KeR w wg) := (KeR.bel HBf.out).trans hkr
          have HBL : Hid (Below B w wg) := (HBf.out.mono HH.out.lt).trans hbl
          clear hD V hkr hbl
          go_wp2_with fail
          go_ret
          have V4 := (((HV.out.set 5 (.int .i64 1)).set 6 (.string s)).set 7 (.string ⟨#[]⟩)).set 8 (.int .i64 0)
          have U4 := (((upd_set wg q 5 (.int .i64 1)).trans (upd_set _ q 6 (.string s))).trans (upd_set _ q 7 (.string ⟨#[]⟩))).trans (upd_set _ q 8 (.int .i64 0))
          have h5 := HD.out.head (y' := { rbeg y with last := 1, a := s.data.toList, b := [], n := 0 }) U4 (by
            unfold RK.cells at V4 ⊢
            show VA _ q [_, _, _, _, _, _, .string ⟨s.data.toList.toArray⟩, .string ⟨[].toArray⟩, _] _
            rw [bytes_back]
            exact V4) rfl rfl
          exact ⟨_, rfl, rfl, ⟨_, h5.1⟩, HKR.out.trans h5.2.1, HBL.out.trans h5.2.2⟩
        · rw [if_neg hg]
          have hg' : (rbeg y).off = false := by
            have : (rbeg y).off ≠ true := hg
            simpa using this
          go_enter Try.func60, Try.ntmps60
          go_wp2_with fail
          refine (rname_ok s _ hs).mono ?_
          rintro e wn ⟨rfl, bn⟩
          rw [hna]
          have HBn : Hid (Below w.heap.size w wn) := bn
          clear bn
          go_wp2_with fail
          refine (rfind_ok _ B q _ y (HH.out.step HBn.out) s).mono ?_
          rintro e wf ⟨rfl, bf⟩
          rw [HIX.out]
          have HBf : Hid (Below w.heap.size w wf) := HBn.out.trans (bf.mono HBn.out.size)
          clear bf
          have y2 := (HH.out.step HBf.out).va.cell 2 (v := .bool y.off) rfl
          rw [hof] at y2
          go_wp2_with fail
          refine (goes_ok wf B q _ y (HH.out.step HBf.out) hof ho hl).mono ?_
          rintro e wg ⟨rfl, hD, hkr, hbl⟩
          rw [hg']
          have HD := (show Hid _ from hD)
          have HKR : Hid (KeR w wg) := (KeR.bel HBf.out).trans hkr
          have HBL : Hid (Below B w wg) := (HBf.out.mono HH.out.lt).trans hbl
          clear hD hkr hbl
          go_wp2_with fail
          refine (car_sync wg B q _ (rbeg y) HD.out s ⟨#[]⟩ 0 i hix x hx).mono ?_
          rintro e wh ⟨⟨vv, rfl⟩, f', e1, e2, e3, h4⟩
          have hlv := h4.lv HD.out
          have HF : Hid (∃ y', rs y' = { begS (rs y) with fs := carA ⟨1, s.data.toList, [], 0⟩ (x.nm, x.bs, x.ks) (rs y).fs } ∧ RLv w wh B q y') := ⟨_, (by
            show (⟨ra (putL f' false y.fs), _, _, _, _, _, _, _, _⟩ : RS) = ⟨_, _, _, _, _, _, _, _, _⟩
            rw [ra_put, e1, e2, e3]
            rfl), hlv.1, HKR.out.trans hlv.2.1, HBL.out.trans hlv.2.2⟩
          clear h4 hlv
          go_wp2_with fail
          go_ret
          obtain ⟨y', h5, h6⟩ := HF.out
          exact ⟨y', rfl, h5, h6⟩
set_option maxRecDepth 100000 in
set_option maxHeartbeats 2000000 in
theorem operate_trunc (w : World) (B q : Nat) (fv : Value) (y : RK) (h : RD w B q fv y) (s : ByteArray) (hs : s.size ≤ 9223372036854775807) (n : Nat) (hn : n ≤ 9223372036854775807) (ho : y.ops ≤ 4611686018427387904) (hl : y.armed ≤ 9223372036854775807) :
    Calls Try.prog 60 #[ptr q, .int .i64 2, .string s, .string ⟨#[]⟩, .int .i64 (n : Int)] w fun r w' => ∃ y', r = .returned (.int .i64 ((rop ⟨2, s.data.toList, [], n⟩ (rs y)).1 : Nat)) ∧ rs y' = (rop ⟨2, s.data.toList, [], n⟩ (rs y)).2 ∧ RLv w w' B q y' := by
  have HH := (show Hid _ from h)
  clear h
  have hp : (ptr q) = .pointer (some ⟨q, 0, none⟩) := rfl
  rw [hp]
  have d0 : (0 : Int) ≤ (n : Int) := by omega
  cases hna : isNm s.data.toList with
  | false =>
    rw [rop_bad (o := ⟨2, s.data.toList, [], n⟩) (by show (isNm s.data.toList && _) = false; rw [hna]; rfl)]
    go_enter Try.func60, Try.ntmps60
    go_wp2_with (go_at_call 55; refine (rname_ok s _ hs).mono ?_; rintro e wn ⟨rfl, bn⟩; rw [hna])
    go_ret
    exact ⟨y, rfl, rfl, RLv.same HH.out bn⟩
  | true =>
    cases hix : rix y.fs s.data.toList with
    | none =>
      rw [rop_none (o := ⟨2, s.data.toList, [], n⟩) (by show (isNm s.data.toList && (decide (2 ≠ 3) || isNm [])) = true; rw [hna]; rfl) (lkA_none hix)]
      have HIX : Hid (rixI y.fs s.data.toList = -1) := (show rixI y.fs s.data.toList = -1 by unfold rixI; rw [hix])
      go_enter Try.func60, Try.ntmps60
      go_wp2_with fail
      refine (rname_ok s _ hs).mono ?_
      rintro e wn ⟨rfl, bn⟩
      rw [hna]
      have HBn : Hid (Below w.heap.size w wn) := bn
      clear bn
      go_wp2_with fail
      refine (rfind_ok _ B q _ y (HH.out.step HBn.out) s).mono ?_
      rintro e wf ⟨rfl, bf⟩
      rw [HIX.out]
      have HBf : Hid (Below w.heap.size w wf) := HBn.out.trans (bf.mono HBn.out.size)
      clear bf
      go_wp2_with fail
      go_ret
      exact ⟨y, rfl, rfl, RLv.same HH.out HBf.out⟩
    | some i =>
      obtain ⟨x, hx, hxn, hlk⟩ := lkA_some hix
      rw [rop_some (o := ⟨2, s.data.toList, [], n⟩) (by show (isNm s.data.toList && (decide (2 ≠ 3) || isNm [])) = true; rw [hna]; rfl) hlk]
      have HIX : Hid (rixI y.fs s.data.toList = (i : Int)) := (show rixI y.fs s.data.toList = (i : Int) by unfold rixI; rw [hix])
      cases hof : y.off with
      | true =>
        rw [if_pos (show (rs y).off = true from hof)]
        go_enter Try.func60, Try.ntmps60
        go_wp2_with fail
        refine (rname_ok s _ hs).mono ?_
        rintro e wn ⟨rfl, bn⟩
        rw [hna]
        have HBn : Hid (Below w.heap.size w wn) := bn
        clear bn
        go_wp2_with fail
        refine (rfind_ok _ B q _ y (HH.out.step HBn.out) s).mono ?_
        rintro e wf ⟨rfl, bf⟩
        rw [HIX.out]
        have HBf : Hid (Below w.heap.size w wf) := HBn.out.trans (bf.mono HBn.out.size)
        clear bf
        have y2 := (HH.out.step HBf.out).va.cell 2 (v := .bool y.off) rfl
        rw [hof] at y2
        go_wp2_with fail
        go_ret
        exact ⟨y, rfl, rfl, RLv.same HH.out HBf.out⟩
      | false =>
        rw [if_neg (show ¬ (rs y).off = true by show ¬ y.off = true; rw [hof]; simp)]
        by_cases hg : (begS (rs y)).off = true
        · rw [if_pos hg]
          have hg' : (rbeg y).off = true := hg
          go_enter Try.func60, Try.ntmps60
          go_wp2_with fail
          refine (rname_ok s _ hs).mono ?_
          rintro e wn ⟨rfl, bn⟩
          rw [hna]
          have HBn : Hid (Below w.heap.size w wn) := bn
          clear bn
          go_wp2_with fail
          refine (rfind_ok _ B q _ y (HH.out.step HBn.out) s).mono ?_
          rintro e wf ⟨rfl, bf⟩
          rw [HIX.out]
          have HBf : Hid (Below w.heap.size w wf) := HBn.out.trans (bf.mono HBn.out.size)
          clear bf
          have y2 := (HH.out.step HBf.out).va.cell 2 (v := .bool y.off) rfl
          rw [hof] at y2
          go_wp2_with fail
          refine (goes_ok wf B q _ y (HH.out.step HBf.out) hof ho hl).mono ?_
          rintro e wg ⟨rfl, hD, hkr, hbl⟩
          rw [hg']
          have V := hD.va
          have z5 := V.cell 5 (v := .int .i64 (rbeg y).last) rfl
          have z6 := V.cell 6 (v := .string ⟨(rbeg y).a.toArray⟩) rfl
          have z7 := V.cell 7 (v := .string ⟨(rbeg y).b.toArray⟩) rfl
          have z8 := V.cell 8 (v := .int .i64 (rbeg y).n) rfl
          have f5 := V.free 5
          have f6 := V.free 6
          have f7 := V.free 7
          have f8 := V.free 8
          have HD := (show Hid _ from hD)
          have HV := (show Hid _ from V)
          have HKR : Hid (KeR w wg) := (KeR.bel HBf.out).trans hkr
          have HBL : Hid (Below B w wg) := (HBf.out.mono HH.out.lt).trans hbl
          clear hD V hkr hbl
          go_wp2_with fail
          go_ret
          have V4 := (((HV.out.set 5 (.int .i64 2)).set 6 (.string s)).set 7 (.string ⟨#[]⟩)).set 8 (.int .i64 (n : Int))
          have U4 := (((upd_set wg q 5 (.int .i64 2)).trans (upd_set _ q 6 (.string s))).trans (upd_set _ q 7 (.string ⟨#[]⟩))).trans (upd_set _ q 8 (.int .i64 (n : Int)))
          have h5 := HD.out.head (y' := { rbeg y with last := 2, a := s.data.toList, b := [], n := n }) U4 (by
            unfold RK.cells at V4 ⊢
            show VA _ q [_, _, _, _, _, _, .string ⟨s.data.toList.toArray⟩, .string ⟨[].toArray⟩, _] _
            rw [bytes_back]
            exact V4) rfl rfl
          exact ⟨_, rfl, rfl, ⟨_, h5.1⟩, HKR.out.trans h5.2.1, HBL.out.trans h5.2.2⟩
        · rw [if_neg hg]
          have hg' : (rbeg y).off = false := by
            have : (rbeg y).off ≠ true := hg
            simpa using this
          go_enter Try.func60, Try.ntmps60
          go_wp2_with fail
          refine (rname_ok s _ hs).mono ?_
          rintro e wn ⟨rfl, bn⟩
          rw [hna]
          have HBn : Hid (Below w.heap.size w wn) := bn
          clear bn
          go_wp2_with fail
          refine (rfind_ok _ B q _ y (HH.out.step HBn.out) s).mono ?_
          rintro e wf ⟨rfl, bf⟩
          rw [HIX.out]
          have HBf : Hid (Below w.heap.size w wf) := HBn.out.trans (bf.mono HBn.out.size)
          clear bf
          have y2 := (HH.out.step HBf.out).va.cell 2 (v := .bool y.off) rfl
          rw [hof] at y2
          go_wp2_with fail
          refine (goes_ok wf B q _ y (HH.out.step HBf.out) hof ho hl).mono ?_
          rintro e wg ⟨rfl, hD, hkr, hbl⟩
          rw [hg']
          have HD := (show Hid _ from hD)
          have HKR : Hid (KeR w wg) := (KeR.bel HBf.out).trans hkr
          have HBL : Hid (Below B w wg) := (HBf.out.mono HH.out.lt).trans hbl
          clear hD hkr hbl
          go_wp2_with fail
          refine (car_trunc wg B q _ (rbeg y) HD.out s ⟨#[]⟩ n hn i hix x hx).mono ?_
          rintro e wh ⟨⟨vv, rfl⟩, f', e1, e2, e3, h4⟩
          have hlv := h4.lv HD.out
          have HF : Hid (∃ y', rs y' = { begS (rs y) with fs := carA ⟨2, s.data.toList, [], n⟩ (x.nm, x.bs, x.ks) (rs y).fs } ∧ RLv w wh B q y') := ⟨_, (by
            show (⟨ra (putL f' false y.fs), _, _, _, _, _, _, _, _⟩ : RS) = ⟨_, _, _, _, _, _, _, _, _⟩
            rw [ra_put, e1, e2, e3]
            rfl), hlv.1, HKR.out.trans hlv.2.1, HBL.out.trans hlv.2.2⟩
          clear h4 hlv
          go_wp2_with fail
          go_ret
          obtain ⟨y', h5, h6⟩ := HF.out
          exact ⟨y', rfl, h5, h6⟩
set_option maxRecDepth 100000 in
set_option maxHeartbeats 2000000 in
theorem operate_ren (w : World) (B q : Nat) (fv : Value) (y : RK) (h : RD w B q fv y) (s : ByteArray) (hs : s.size ≤ 9223372036854775807) (u : ByteArray) (hus : u.size ≤ 9223372036854775807) (ho : y.ops ≤ 4611686018427387904) (hl : y.armed ≤ 9223372036854775807) :
    Calls Try.prog 60 #[ptr q, .int .i64 3, .string s, .string u, .int .i64 0] w fun r w' => ∃ y', r = .returned (.int .i64 ((rop ⟨3, s.data.toList, u.data.toList, 0⟩ (rs y)).1 : Nat)) ∧ rs y' = (rop ⟨3, s.data.toList, u.data.toList, 0⟩ (rs y)).2 ∧ RLv w w' B q y' := by
  have HH := (show Hid _ from h)
  clear h
  have hp : (ptr q) = .pointer (some ⟨q, 0, none⟩) := rfl
  rw [hp]
  cases hna : isNm s.data.toList with
  | false =>
    rw [rop_bad (o := ⟨3, s.data.toList, u.data.toList, 0⟩) (by show (isNm s.data.toList && _) = false; rw [hna]; rfl)]
    go_enter Try.func60, Try.ntmps60
    go_wp2_with (go_at_call 55; refine (rname_ok s _ hs).mono ?_; rintro e wn ⟨rfl, bn⟩; rw [hna])
    go_ret
    exact ⟨y, rfl, rfl, RLv.same HH.out bn⟩
  | true =>
    cases hnb : isNm u.data.toList with
    | false =>
      rw [rop_bad (o := ⟨3, s.data.toList, u.data.toList, 0⟩) (by show (isNm s.data.toList && (decide (3 ≠ 3) || isNm u.data.toList)) = false; rw [hna, hnb]; rfl)]
      go_enter Try.func60, Try.ntmps60
      go_wp2_with fail
      refine (rname_ok s _ hs).mono ?_
      rintro e wn ⟨rfl, bn⟩
      rw [hna]
      go_wp2_with fail
      refine (rname_ok u _ hus).mono ?_
      rintro e wm ⟨rfl, bm⟩
      rw [hnb]
      go_wp2_with fail
      go_ret
      exact ⟨y, rfl, rfl, RLv.same HH.out (bn.trans (bm.mono bn.size))⟩
    | true =>
      cases hix : rix y.fs s.data.toList with
      | none =>
        rw [rop_none (o := ⟨3, s.data.toList, u.data.toList, 0⟩) (by show (isNm s.data.toList && (decide (3 ≠ 3) || isNm u.data.toList)) = true; rw [hna]; rw [hnb]; rfl) (lkA_none hix)]
        have HIX : Hid (rixI y.fs s.data.toList = -1) := (show rixI y.fs s.data.toList = -1 by unfold rixI; rw [hix])
        go_enter Try.func60, Try.ntmps60
        go_wp2_with fail
        refine (rname_ok s _ hs).mono ?_
        rintro e wn ⟨rfl, bn⟩
        rw [hna]
        have HBn : Hid (Below w.heap.size w wn) := bn
        clear bn
        go_wp2_with fail
        refine (rname_ok u _ hus).mono ?_
        rintro e wm ⟨rfl, bm⟩
        rw [hnb]
        have HBm : Hid (Below w.heap.size w wm) := HBn.out.trans (bm.mono HBn.out.size)
        clear bm
        go_wp2_with fail
        refine (rfind_ok _ B q _ y (HH.out.step HBm.out) s).mono ?_
        rintro e wf ⟨rfl, bf⟩
        rw [HIX.out]
        have HBf : Hid (Below w.heap.size w wf) := HBm.out.trans (bf.mono HBm.out.size)
        clear bf
        go_wp2_with fail
        go_ret
        exact ⟨y, rfl, rfl, RLv.same HH.out HBf.out⟩
      | some i =>
        obtain ⟨x, hx, hxn, hlk⟩ := lkA_some hix
        rw [rop_some (o := ⟨3, s.data.toList, u.data.toList, 0⟩) (by show (isNm s.data.toList && (decide (3 ≠ 3) || isNm u.data.toList)) = true; rw [hna]; rw [hnb]; rfl) hlk]
        have HIX : Hid (rixI y.fs s.data.toList = (i : Int)) := (show rixI y.fs s.data.toList = (i : Int) by unfold rixI; rw [hix])
        cases hof : y.off with
        | true =>
          rw [if_pos (show (rs y).off = true from hof)]
          go_enter Try.func60, Try.ntmps60
          go_wp2_with fail
          refine (rname_ok s _ hs).mono ?_
          rintro e wn ⟨rfl, bn⟩
          rw [hna]
          have HBn : Hid (Below w.heap.size w wn) := bn
          clear bn
          go_wp2_with fail
          refine (rname_ok u _ hus).mono ?_
          rintro e wm ⟨rfl, bm⟩
          rw [hnb]
          have HBm : Hid (Below w.heap.size w wm) := HBn.out.trans (bm.mono HBn.out.size)
          clear bm
          go_wp2_with fail
          refine (rfind_ok _ B q _ y (HH.out.step HBm.out) s).mono ?_
          rintro e wf ⟨rfl, bf⟩
          rw [HIX.out]
          have HBf : Hid (Below w.heap.size w wf) := HBm.out.trans (bf.mono HBm.out.size)
          clear bf
          have y2 := (HH.out.step HBf.out).va.cell 2 (v := .bool y.off) rfl
          rw [hof] at y2
          go_wp2_with fail
          go_ret
          exact ⟨y, rfl, rfl, RLv.same HH.out HBf.out⟩
        | false =>
          rw [if_neg (show ¬ (rs y).off = true by show ¬ y.off = true; rw [hof]; simp)]
          by_cases hg : (begS (rs y)).off = true
          · rw [if_pos hg]
            have hg' : (rbeg y).off = true := hg
            go_enter Try.func60, Try.ntmps60
            go_wp2_with fail
            refine (rname_ok s _ hs).mono ?_
            rintro e wn ⟨rfl, bn⟩
            rw [hna]
            have HBn : Hid (Below w.heap.size w wn) := bn
            clear bn
            go_wp2_with fail
            refine (rname_ok u _ hus).mono ?_
            rintro e wm ⟨rfl, bm⟩
            rw [hnb]
            have HBm : Hid (Below w.heap.size w wm) := HBn.out.trans (bm.mono HBn.out.size)
            clear bm
            go_wp2_with fail
            refine (rfind_ok _ B q _ y (HH.out.step HBm.out) s).mono ?_
            rintro e wf ⟨rfl, bf⟩
            rw [HIX.out]
            have HBf : Hid (Below w.heap.size w wf) := HBm.out.trans (bf.mono HBm.out.size)
            clear bf
            have y2 := (HH.out.step HBf.out).va.cell 2 (v := .bool y.off) rfl
            rw [hof] at y2
            go_wp2_with fail
            refine (goes_ok wf B q _ y (HH.out.step HBf.out) hof ho hl).mono ?_
            rintro e wg ⟨rfl, hD, hkr, hbl⟩
            rw [hg']
            have V := hD.va
            have z5 := V.cell 5 (v := .int .i64 (rbeg y).last) rfl
            have z6 := V.cell 6 (v := .string ⟨(rbeg y).a.toArray⟩) rfl
            have z7 := V.cell 7 (v := .string ⟨(rbeg y).b.toArray⟩) rfl
            have z8 := V.cell 8 (v := .int .i64 (rbeg y).n) rfl
            have f5 := V.free 5
            have f6 := V.free 6
            have f7 := V.free 7
            have f8 := V.free 8
            have HD := (show Hid _ from hD)
            have HV := (show Hid _ from V)
            have HKR : Hid (KeR w wg) := (KeR.bel HBf.out).trans hkr
            have HBL : Hid (Below B w wg) := (HBf.out.mono HH.out.lt).trans hbl
            clear hD V hkr hbl
            go_wp2_with fail
            go_ret
            have V4 := (((HV.out.set 5 (.int .i64 3)).set 6 (.string s)).set 7 (.string u)).set 8 (.int .i64 0)
            have U4 := (((upd_set wg q 5 (.int .i64 3)).trans (upd_set _ q 6 (.string s))).trans (upd_set _ q 7 (.string u))).trans (upd_set _ q 8 (.int .i64 0))
            have h5 := HD.out.head (y' := { rbeg y with last := 3, a := s.data.toList, b := u.data.toList, n := 0 }) U4 (by
              unfold RK.cells at V4 ⊢
              show VA _ q [_, _, _, _, _, _, .string ⟨s.data.toList.toArray⟩, .string ⟨u.data.toList.toArray⟩, _] _
              rw [bytes_back, bytes_back]
              exact V4) rfl rfl
            exact ⟨_, rfl, rfl, ⟨_, h5.1⟩, HKR.out.trans h5.2.1, HBL.out.trans h5.2.2⟩
          · rw [if_neg hg]
            have hg' : (rbeg y).off = false := by
              have : (rbeg y).off ≠ true := hg
              simpa using this
            go_enter Try.func60, Try.ntmps60
            go_wp2_with fail
            refine (rname_ok s _ hs).mono ?_
            rintro e wn ⟨rfl, bn⟩
            rw [hna]
            have HBn : Hid (Below w.heap.size w wn) := bn
            clear bn
            go_wp2_with fail
            refine (rname_ok u _ hus).mono ?_
            rintro e wm ⟨rfl, bm⟩
            rw [hnb]
            have HBm : Hid (Below w.heap.size w wm) := HBn.out.trans (bm.mono HBn.out.size)
            clear bm
            go_wp2_with fail
            refine (rfind_ok _ B q _ y (HH.out.step HBm.out) s).mono ?_
            rintro e wf ⟨rfl, bf⟩
            rw [HIX.out]
            have HBf : Hid (Below w.heap.size w wf) := HBm.out.trans (bf.mono HBm.out.size)
            clear bf
            have y2 := (HH.out.step HBf.out).va.cell 2 (v := .bool y.off) rfl
            rw [hof] at y2
            go_wp2_with fail
            refine (goes_ok wf B q _ y (HH.out.step HBf.out) hof ho hl).mono ?_
            rintro e wg ⟨rfl, hD, hkr, hbl⟩
            rw [hg']
            have HD := (show Hid _ from hD)
            have HKR : Hid (KeR w wg) := (KeR.bel HBf.out).trans hkr
            have HBL : Hid (Below B w wg) := (HBf.out.mono HH.out.lt).trans hbl
            clear hD hkr hbl
            go_wp2_with fail
            refine (car_ren wg B q _ (rbeg y) HD.out s u (nm_size hnb) 0 i hix x hx).mono ?_
            rintro e wh ⟨⟨vv, rfl⟩, h4⟩
            have hlv := h4.lv HD.out
            have HF : Hid (∃ y', rs y' = { begS (rs y) with fs := carA ⟨3, s.data.toList, u.data.toList, 0⟩ (x.nm, x.bs, x.ks) (rs y).fs } ∧ RLv w wh B q y') := ⟨_, (by
              show (⟨ra (putL _ false (y.fs.filter (fun g => decide (g.nm ≠ s.data.toList)))), _, _, _, _, _, _, _, _⟩ : RS) = ⟨_, _, _, _, _, _, _, _, _⟩
              rw [ra_put, ra_filter y.fs (fun l => decide (l ≠ s.data.toList))]
              rfl), hlv.1, HKR.out.trans hlv.2.1, HBL.out.trans hlv.2.2⟩
            clear h4 hlv
            go_wp2_with fail
            go_ret
            obtain ⟨y', h5, h6⟩ := HF.out
            exact ⟨y', rfl, h5, h6⟩
set_option maxRecDepth 100000 in
set_option maxHeartbeats 2000000 in
theorem operate_rem (w : World) (B q : Nat) (fv : Value) (y : RK) (h : RD w B q fv y) (s : ByteArray) (hs : s.size ≤ 9223372036854775807) (ho : y.ops ≤ 4611686018427387904) (hl : y.armed ≤ 9223372036854775807) :
    Calls Try.prog 60 #[ptr q, .int .i64 4, .string s, .string ⟨#[]⟩, .int .i64 0] w fun r w' => ∃ y', r = .returned (.int .i64 ((rop ⟨4, s.data.toList, [], 0⟩ (rs y)).1 : Nat)) ∧ rs y' = (rop ⟨4, s.data.toList, [], 0⟩ (rs y)).2 ∧ RLv w w' B q y' := by
  have HH := (show Hid _ from h)
  clear h
  have hp : (ptr q) = .pointer (some ⟨q, 0, none⟩) := rfl
  rw [hp]
  cases hna : isNm s.data.toList with
  | false =>
    rw [rop_bad (o := ⟨4, s.data.toList, [], 0⟩) (by show (isNm s.data.toList && _) = false; rw [hna]; rfl)]
    go_enter Try.func60, Try.ntmps60
    go_wp2_with (go_at_call 55; refine (rname_ok s _ hs).mono ?_; rintro e wn ⟨rfl, bn⟩; rw [hna])
    go_ret
    exact ⟨y, rfl, rfl, RLv.same HH.out bn⟩
  | true =>
    cases hix : rix y.fs s.data.toList with
    | none =>
      rw [rop_none (o := ⟨4, s.data.toList, [], 0⟩) (by show (isNm s.data.toList && (decide (4 ≠ 3) || isNm [])) = true; rw [hna]; rfl) (lkA_none hix)]
      have HIX : Hid (rixI y.fs s.data.toList = -1) := (show rixI y.fs s.data.toList = -1 by unfold rixI; rw [hix])
      go_enter Try.func60, Try.ntmps60
      go_wp2_with fail
      refine (rname_ok s _ hs).mono ?_
      rintro e wn ⟨rfl, bn⟩
      rw [hna]
      have HBn : Hid (Below w.heap.size w wn) := bn
      clear bn
      go_wp2_with fail
      refine (rfind_ok _ B q _ y (HH.out.step HBn.out) s).mono ?_
      rintro e wf ⟨rfl, bf⟩
      rw [HIX.out]
      have HBf : Hid (Below w.heap.size w wf) := HBn.out.trans (bf.mono HBn.out.size)
      clear bf
      go_wp2_with fail
      go_ret
      exact ⟨y, rfl, rfl, RLv.same HH.out HBf.out⟩
    | some i =>
      obtain ⟨x, hx, hxn, hlk⟩ := lkA_some hix
      rw [rop_some (o := ⟨4, s.data.toList, [], 0⟩) (by show (isNm s.data.toList && (decide (4 ≠ 3) || isNm [])) = true; rw [hna]; rfl) hlk]
      have HIX : Hid (rixI y.fs s.data.toList = (i : Int)) := (show rixI y.fs s.data.toList = (i : Int) by unfold rixI; rw [hix])
      cases hof : y.off with
      | true =>
        rw [if_pos (show (rs y).off = true from hof)]
        go_enter Try.func60, Try.ntmps60
        go_wp2_with fail
        refine (rname_ok s _ hs).mono ?_
        rintro e wn ⟨rfl, bn⟩
        rw [hna]
        have HBn : Hid (Below w.heap.size w wn) := bn
        clear bn
        go_wp2_with fail
        refine (rfind_ok _ B q _ y (HH.out.step HBn.out) s).mono ?_
        rintro e wf ⟨rfl, bf⟩
        rw [HIX.out]
        have HBf : Hid (Below w.heap.size w wf) := HBn.out.trans (bf.mono HBn.out.size)
        clear bf
        have y2 := (HH.out.step HBf.out).va.cell 2 (v := .bool y.off) rfl
        rw [hof] at y2
        go_wp2_with fail
        go_ret
        exact ⟨y, rfl, rfl, RLv.same HH.out HBf.out⟩
      | false =>
        rw [if_neg (show ¬ (rs y).off = true by show ¬ y.off = true; rw [hof]; simp)]
        by_cases hg : (begS (rs y)).off = true
        · rw [if_pos hg]
          have hg' : (rbeg y).off = true := hg
          go_enter Try.func60, Try.ntmps60
          go_wp2_with fail
          refine (rname_ok s _ hs).mono ?_
          rintro e wn ⟨rfl, bn⟩
          rw [hna]
          have HBn : Hid (Below w.heap.size w wn) := bn
          clear bn
          go_wp2_with fail
          refine (rfind_ok _ B q _ y (HH.out.step HBn.out) s).mono ?_
          rintro e wf ⟨rfl, bf⟩
          rw [HIX.out]
          have HBf : Hid (Below w.heap.size w wf) := HBn.out.trans (bf.mono HBn.out.size)
          clear bf
          have y2 := (HH.out.step HBf.out).va.cell 2 (v := .bool y.off) rfl
          rw [hof] at y2
          go_wp2_with fail
          refine (goes_ok wf B q _ y (HH.out.step HBf.out) hof ho hl).mono ?_
          rintro e wg ⟨rfl, hD, hkr, hbl⟩
          rw [hg']
          have V := hD.va
          have z5 := V.cell 5 (v := .int .i64 (rbeg y).last) rfl
          have z6 := V.cell 6 (v := .string ⟨(rbeg y).a.toArray⟩) rfl
          have z7 := V.cell 7 (v := .string ⟨(rbeg y).b.toArray⟩) rfl
          have z8 := V.cell 8 (v := .int .i64 (rbeg y).n) rfl
          have f5 := V.free 5
          have f6 := V.free 6
          have f7 := V.free 7
          have f8 := V.free 8
          have HD := (show Hid _ from hD)
          have HV := (show Hid _ from V)
          have HKR : Hid (KeR w wg) := (KeR.bel HBf.out).trans hkr
          have HBL : Hid (Below B w wg) := (HBf.out.mono HH.out.lt).trans hbl
          clear hD V hkr hbl
          go_wp2_with fail
          go_ret
          have V4 := (((HV.out.set 5 (.int .i64 4)).set 6 (.string s)).set 7 (.string ⟨#[]⟩)).set 8 (.int .i64 0)
          have U4 := (((upd_set wg q 5 (.int .i64 4)).trans (upd_set _ q 6 (.string s))).trans (upd_set _ q 7 (.string ⟨#[]⟩))).trans (upd_set _ q 8 (.int .i64 0))
          have h5 := HD.out.head (y' := { rbeg y with last := 4, a := s.data.toList, b := [], n := 0 }) U4 (by
            unfold RK.cells at V4 ⊢
            show VA _ q [_, _, _, _, _, _, .string ⟨s.data.toList.toArray⟩, .string ⟨[].toArray⟩, _] _
            rw [bytes_back]
            exact V4) rfl rfl
          exact ⟨_, rfl, rfl, ⟨_, h5.1⟩, HKR.out.trans h5.2.1, HBL.out.trans h5.2.2⟩
        · rw [if_neg hg]
          have hg' : (rbeg y).off = false := by
            have : (rbeg y).off ≠ true := hg
            simpa using this
          go_enter Try.func60, Try.ntmps60
          go_wp2_with fail
          refine (rname_ok s _ hs).mono ?_
          rintro e wn ⟨rfl, bn⟩
          rw [hna]
          have HBn : Hid (Below w.heap.size w wn) := bn
          clear bn
          go_wp2_with fail
          refine (rfind_ok _ B q _ y (HH.out.step HBn.out) s).mono ?_
          rintro e wf ⟨rfl, bf⟩
          rw [HIX.out]
          have HBf : Hid (Below w.heap.size w wf) := HBn.out.trans (bf.mono HBn.out.size)
          clear bf
          have y2 := (HH.out.step HBf.out).va.cell 2 (v := .bool y.off) rfl
          rw [hof] at y2
          go_wp2_with fail
          refine (goes_ok wf B q _ y (HH.out.step HBf.out) hof ho hl).mono ?_
          rintro e wg ⟨rfl, hD, hkr, hbl⟩
          rw [hg']
          have HD := (show Hid _ from hD)
          have HKR : Hid (KeR w wg) := (KeR.bel HBf.out).trans hkr
          have HBL : Hid (Below B w wg) := (HBf.out.mono HH.out.lt).trans hbl
          clear hD hkr hbl
          go_wp2_with fail
          refine (car_rem wg B q _ (rbeg y) HD.out s ⟨#[]⟩ 0 i hix x hx).mono ?_
          rintro e wh ⟨⟨vv, rfl⟩, h4⟩
          have hlv := h4.lv HD.out
          have HF : Hid (∃ y', rs y' = { begS (rs y) with fs := carA ⟨4, s.data.toList, [], 0⟩ (x.nm, x.bs, x.ks) (rs y).fs } ∧ RLv w wh B q y') := ⟨_, (by
            show (⟨ra (y.fs.filter (fun g => decide (g.nm ≠ s.data.toList))), _, _, _, _, _, _, _, _⟩ : RS) = ⟨_, _, _, _, _, _, _, _, _⟩
            rw [ra_filter y.fs (fun l => decide (l ≠ s.data.toList))]
            rfl), hlv.1, HKR.out.trans hlv.2.1, HBL.out.trans hlv.2.2⟩
          clear h4 hlv
          go_wp2_with fail
          go_ret
          obtain ⟨y', h5, h6⟩ := HF.out
          exact ⟨y', rfl, h5, h6⟩
theorem DocSync_any (w : World) (B q : Nat) (fv : Value) (y : RK) (h : RD w B q fv y) (s : ByteArray) (hs : s.size ≤ 9223372036854775807) (ho : y.ops ≤ 4611686018427387904) (hl : y.armed ≤ 9223372036854775807) :
    Calls Try.prog 31 #[ptr q, .string s] w fun r w' => ∃ y', r = .returned (.int .i64 ((rop ⟨1, s.data.toList, [], 0⟩ (rs y)).1 : Nat)) ∧ rs y' = (rop ⟨1, s.data.toList, [], 0⟩ (rs y)).2 ∧ RLv w w' B q y' := by
  have HC : Hid (∀ _ : Unit, Calls Try.prog 60 #[ptr q, .int .i64 1, .string s, .string ⟨#[]⟩, .int .i64 0] w fun r w' => ∃ y', r = .returned (.int .i64 ((rop ⟨1, s.data.toList, [], 0⟩ (rs y)).1 : Nat)) ∧ rs y' = (rop ⟨1, s.data.toList, [], 0⟩ (rs y)).2 ∧ RLv w w' B q y') := fun _ => operate_sync w B q fv y h s hs ho hl
  have hp : (ptr q) = .pointer (some ⟨q, 0, none⟩) := rfl
  rw [hp] at HC ⊢
  generalize rop ⟨1, s.data.toList, [], 0⟩ (rs y) = rr at *
  clear h
  go_enter Try.func31, Try.ntmps31
  go_wp2_with fail
  refine (HC.out ()).mono ?_
  rintro e w1 ⟨y', rfl, h1, h2⟩
  go_wp2_with fail
  go_ret
  exact ⟨y', rfl, h1, h2⟩
theorem DocTruncate_any (w : World) (B q : Nat) (fv : Value) (y : RK) (h : RD w B q fv y) (s : ByteArray) (hs : s.size ≤ 9223372036854775807) (n : Nat) (hn : n ≤ 9223372036854775807) (ho : y.ops ≤ 4611686018427387904) (hl : y.armed ≤ 9223372036854775807) :
    Calls Try.prog 32 #[ptr q, .string s, .int .i64 (n : Int)] w fun r w' => ∃ y', r = .returned (.int .i64 ((rop ⟨2, s.data.toList, [], n⟩ (rs y)).1 : Nat)) ∧ rs y' = (rop ⟨2, s.data.toList, [], n⟩ (rs y)).2 ∧ RLv w w' B q y' := by
  have HC : Hid (∀ _ : Unit, Calls Try.prog 60 #[ptr q, .int .i64 2, .string s, .string ⟨#[]⟩, .int .i64 (n : Int)] w fun r w' => ∃ y', r = .returned (.int .i64 ((rop ⟨2, s.data.toList, [], n⟩ (rs y)).1 : Nat)) ∧ rs y' = (rop ⟨2, s.data.toList, [], n⟩ (rs y)).2 ∧ RLv w w' B q y') := fun _ => operate_trunc w B q fv y h s hs n hn ho hl
  have hp : (ptr q) = .pointer (some ⟨q, 0, none⟩) := rfl
  rw [hp] at HC ⊢
  generalize rop ⟨2, s.data.toList, [], n⟩ (rs y) = rr at *
  clear h
  go_enter Try.func32, Try.ntmps32
  go_wp2_with fail
  refine (HC.out ()).mono ?_
  rintro e w1 ⟨y', rfl, h1, h2⟩
  go_wp2_with fail
  go_ret
  exact ⟨y', rfl, h1, h2⟩
theorem DocRename_any (w : World) (B q : Nat) (fv : Value) (y : RK) (h : RD w B q fv y) (s : ByteArray) (hs : s.size ≤ 9223372036854775807) (u : ByteArray) (hus : u.size ≤ 9223372036854775807) (ho : y.ops ≤ 4611686018427387904) (hl : y.armed ≤ 9223372036854775807) :
    Calls Try.prog 33 #[ptr q, .string s, .string u] w fun r w' => ∃ y', r = .returned (.int .i64 ((rop ⟨3, s.data.toList, u.data.toList, 0⟩ (rs y)).1 : Nat)) ∧ rs y' = (rop ⟨3, s.data.toList, u.data.toList, 0⟩ (rs y)).2 ∧ RLv w w' B q y' := by
  have HC : Hid (∀ _ : Unit, Calls Try.prog 60 #[ptr q, .int .i64 3, .string s, .string u, .int .i64 0] w fun r w' => ∃ y', r = .returned (.int .i64 ((rop ⟨3, s.data.toList, u.data.toList, 0⟩ (rs y)).1 : Nat)) ∧ rs y' = (rop ⟨3, s.data.toList, u.data.toList, 0⟩ (rs y)).2 ∧ RLv w w' B q y') := fun _ => operate_ren w B q fv y h s hs u hus ho hl
  have hp : (ptr q) = .pointer (some ⟨q, 0, none⟩) := rfl
  rw [hp] at HC ⊢
  generalize rop ⟨3, s.data.toList, u.data.toList, 0⟩ (rs y) = rr at *
  clear h
  go_enter Try.func33, Try.ntmps33
  go_wp2_with fail
  refine (HC.out ()).mono ?_
  rintro e w1 ⟨y', rfl, h1, h2⟩
  go_wp2_with fail
  go_ret
  exact ⟨y', rfl, h1, h2⟩
theorem DocRemove_any (w : World) (B q : Nat) (fv : Value) (y : RK) (h : RD w B q fv y) (s : ByteArray) (hs : s.size ≤ 9223372036854775807) (ho : y.ops ≤ 4611686018427387904) (hl : y.armed ≤ 9223372036854775807) :
    Calls Try.prog 35 #[ptr q, .string s] w fun r w' => ∃ y', r = .returned (.int .i64 ((rop ⟨4, s.data.toList, [], 0⟩ (rs y)).1 : Nat)) ∧ rs y' = (rop ⟨4, s.data.toList, [], 0⟩ (rs y)).2 ∧ RLv w w' B q y' := by
  have HC : Hid (∀ _ : Unit, Calls Try.prog 60 #[ptr q, .int .i64 4, .string s, .string ⟨#[]⟩, .int .i64 0] w fun r w' => ∃ y', r = .returned (.int .i64 ((rop ⟨4, s.data.toList, [], 0⟩ (rs y)).1 : Nat)) ∧ rs y' = (rop ⟨4, s.data.toList, [], 0⟩ (rs y)).2 ∧ RLv w w' B q y') := fun _ => operate_rem w B q fv y h s hs ho hl
  have hp : (ptr q) = .pointer (some ⟨q, 0, none⟩) := rfl
  rw [hp] at HC ⊢
  generalize rop ⟨4, s.data.toList, [], 0⟩ (rs y) = rr at *
  clear h
  go_enter Try.func35, Try.ntmps35
  go_wp2_with fail
  refine (HC.out ()).mono ?_
  rintro e w1 ⟨y', rfl, h1, h2⟩
  go_wp2_with fail
  go_ret
  exact ⟨y', rfl, h1, h2⟩
end Go.Proofs.Ytakgkpiicigihaa
