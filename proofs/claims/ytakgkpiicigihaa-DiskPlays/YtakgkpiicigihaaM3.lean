/- disk XLIX: the document's Append, where it is done. -/
import Derived.Test.YtakgkpiicigihaaM2
import Derived.BigQuiet
namespace Go.Proofs.Ytakgkpiicigihaa
open Go.RowKit Go.Maps Go.Sort Go.Shelf pk
set_option linter.unusedVariables false
set_option linter.unusedSimpArgs false

def appE : Bool → Int
  | true => 18
  | false => 0
def appR (x : RS) (t : T3) : RS := { begS x with fs := putA t false x.fs, last := if (begS x).off then 0 else x.last }
theorem pk.OwnB.stp {w w' : World} {B : Nat} {v : Value} {cs : List Nat} (h : OwnB w B v cs) (k : Below w.heap.size w w') : OwnB w' B v cs := by
  refine ⟨h.byte, h.own.1, ?_⟩
  rcases h.own.2 with h2 | ⟨g, cap, cur, e, hb, hg, r⟩
  · exact Or.inl h2
  · refine Or.inr ⟨g, cap, cur, e, hb, ?_, r⟩
    rw [k.block g ?_]
    · exact hg
    · rcases Nat.lt_or_ge g w.heap.size with hlt | hge
      · exact hlt
      · rw [Array.getElem?_eq_none hge] at hg; cases hg
theorem pk.OwnB.safeX {w : World} {B : Nat} {v : Value} {cs : List Nat} (h : OwnB w B v cs) : SafeX w v := by
  intro b off n c e
  rcases h.own.2 with ⟨rfl, _⟩ | ⟨g, cap, cur, rfl, _, hg, _⟩
  · cases e
  · cases e
    exact ⟨_, _, _, hg, by unfold Dt; decide, by unfold Rt; decide⟩
theorem Own.safeB {w : World} {B : Nat} {v : Value} {ks : List Bool} (h : Own KB w B v ks) : SafeX w v := by
  intro b off n c e
  rcases h.own.2 with ⟨rfl, _⟩ | ⟨g, cap, cur, rfl, _, hg, _⟩
  · cases e
  · cases e
    exact ⟨_, _, _, hg, by unfold Dt; decide, by unfold Rt; decide⟩
theorem put_app (w wd : World) (B q : Nat) (fv : Value) (y : RK) (h : RD w B q fv y) (hb : Below w.heap.size w wd) (s : ByteArray) (hs : s.data.toList.length ≤ 16) (bs' : List Nat) (ks' : List Bool) (sa ad : Option Addr) (L sc Ld cd P1 P2 : Nat)
    (hO : OwnB wd P1 (.slice sa L sc) bs') (hK : Own KB wd P2 (.slice ad Ld cd) ks') (hL : bs'.length = L) (hLd : ks'.length = Ld) (hlen : bs'.length = 32 * ks'.length)
    (hr : ks'.length + rtot (y.fs.filter (fun g => decide (g.nm ≠ s.data.toList))) ≤ y.room) (hc : (y.fs.filter (fun g => decide (g.nm ≠ s.data.toList))).length + 1 ≤ 64) :
    Calls Try.prog 57 #[ptr q, .agg #[.string s, .slice sa L sc, .slice ad Ld cd]] wd fun r w' => (∃ v, r = .returned v) ∧ ∃ f' : RF, f'.nm = s.data.toList ∧ f'.bs = bs' ∧ f'.ks = ks' ∧ RLp wd w' B q { y with fs := putL f' false y.fs } := by
  have HD := h.step hb
  subst hL
  subst hLd
  obtain ⟨f', hf'⟩ : ∃ f' : RF, f' = ⟨s.data.toList, sa, sc, bs', ad, cd, ks'⟩ := ⟨_, rfl⟩
  have hcells : (.agg #[.string s, .slice sa bs'.length sc, .slice ad ks'.length cd] : Value) = .agg f'.cells.toArray := by
    rw [hf']
    show _ = Value.agg #[.string ⟨s.data.toList.toArray⟩, .slice sa bs'.length sc, .slice ad ks'.length cd]
    rw [bytes_back]
  have hR : Rf wd f' := by
    rw [hf']
    refine ⟨hO.bs, hO.safeX, hK.sl.bl, hK.safeB, hlen, ?_, hs⟩
    intro e
    rcases hK.own.2 with ⟨h1, _⟩ | ⟨g, cap, cur, h1, _⟩
    · injection h1
    · injection h1 with h1
      rw [h1] at e
      cases e
  rw [hcells]
  have e1 : f'.nm = s.data.toList := by rw [hf']
  have e3 : f'.ks = ks' := by rw [hf']
  refine (put_ok wd B q _ y HD f' hR ?_ ?_ (fun g hg => putL_mem hg)).mono ?_
  · rw [(putL_perm f' y.fs).length_eq, List.length_cons, e1]
    exact hc
  · rw [rtot_perm (putL_perm f' y.fs), e1]
    simp only [rtot]
    rw [e3]
    exact hr
  · rintro e w5 ⟨h1, h2⟩
    exact ⟨h1, f', e1, by rw [hf'], e3, h2⟩

set_option maxRecDepth 100000 in
set_option maxHeartbeats 2000000 in
theorem rappend_old (w : World) (B q : Nat) (fv : Value) (y : RK) (h : RD w B q fv y) (s : ByteArray) (hs : s.size ≤ 9223372036854775807) (v : Value) (bs : List Nat) (hb : Bs w v bs) (hl : bs.length ≤ 140737488351232) (hna : isNm s.data.toList = true) (hof : y.off = false)
    (hfit : cnt bs.length + rtot y.fs ≤ y.room) (i : Nat) (hi : rix y.fs s.data.toList = some i) (x0 : RF) (hx0 : y.fs[i]? = some x0) (ho : y.ops ≤ 4611686018427387904) (har : y.armed ≤ 9223372036854775807) :
    Calls Try.prog 30 #[ptr q, .string s, v] w fun r w' => ∃ y', r = .returned (.int .i64 (appE (rbeg y).off)) ∧ rs y' = appR (rs y) (s.data.toList, x0.bs ++ pdd bs, x0.ks ++ List.replicate (cnt bs.length) false) ∧ RLv w w' B q y' := by
  have HPB := (show Hid _ from hb)
  obtain ⟨hby, pa, pc, hpv, hp1, hp2, _⟩ := hb
  subst hpv
  obtain ⟨fa, fc, hfv, hc1, hc2⟩ := h.row.form
  subst hfv
  have HH := (show Hid _ from h)
  have hmem0 : x0 ∈ y.fs := List.mem_of_getElem? hx0
  obtain ⟨hil0, hnm0⟩ := rix_at hi
  have hxe0 : y.fs[i] = x0 := by rw [List.getElem?_eq_getElem hil0] at hx0; exact Option.some.inj hx0
  rw [hxe0] at hnm0
  clear hxe0
  have HRF0 : Hid (Rf w x0) := h.fil x0 hmem0
  obtain ⟨b0, o0, ha0, hbl0, hcell0⟩ := h.row.sl.at i x0 hx0
  have HCL0 : Hid (∀ j v, [Value.string ⟨x0.nm.toArray⟩, .slice x0.ba x0.bs.length x0.bc, .slice x0.ka x0.ks.length x0.kc][j]? = some v → w.cell? ⟨b0, o0 + i * 3 + j, none⟩ = some v) := hcell0
  have HMEM : Hid (x0 ∈ y.fs) := hmem0
  have HNM : Hid (x0.nm = s.data.toList) := hnm0
  have HIX : Hid (rixI y.fs s.data.toList = (i : Int)) := (show rixI y.fs s.data.toList = (i : Int) by unfold rixI; rw [hi])
  have hkl0 : x0.ks.length ≤ 65536 := by have := rtot_out hmem0; have := h.room; omega
  have d1 : (i : Int) < (y.fs.length : Int) := by omega
  subst ha0
  clear hcell0 hmem0 hnm0 hil0 hx0 hi
  have hcnt := h.cnt
  have hroom := h.room
  have hlq := h.va.lt
  have y0 := h.va.cell 0 (v := .slice (some ⟨b0, o0, none⟩) y.fs.length fc) rfl
  generalize hN : y.fs.length = N at *
  have HN := (show Hid _ from hN)
  generalize hPl : bs.length = plen at *
  have HPL : Hid (bs.length = plen) := hPl
  obtain ⟨nn, hnn⟩ : ∃ nn, nn = cnt plen := ⟨_, rfl⟩
  have HNN : Hid (nn = cnt plen) := hnn
  have hnb : nn ≤ 4398046511105 := by rw [hnn]; unfold cnt; omega
  have hp : (ptr q) = .pointer (some ⟨q, 0, none⟩) := rfl
  rw [hp]
  clear h hN hPl hby
  have HFIT : Hid (nn + rtot y.fs ≤ y.room) := (show nn + rtot y.fs ≤ y.room by rw [hnn]; exact hfit)
  clear hnn hfit
  by_cases hm : plen % 32 = 0
  · have m0 : (plen : Int) % 32 = 0 := by omega
    have m1 : ((nn : Nat) : Int) = (plen : Int) / 32 := by have := HNN.out; unfold cnt at this; omega
    go_enter Try.func30, Try.ntmps30
    go_wp2_with fail
    refine (rname_ok s _ hs).mono ?_
    rintro e wn ⟨rfl, bn⟩
    rw [hna]
    have HBn : Hid (Below w.heap.size w wn) := bn
    have yn := (bn.cell (p := ⟨q, 0, none⟩) hlq).trans y0
    clear bn
    go_wp2_with fail
    rw [← m1]
    clear m1 m0 hm
    try clear m2
    go_loopw [8, 34] (fun al iv wr => ∃ (k sm : Nat), k ≤ N ∧ iv = .int .i64 (k : Int) ∧ al = .int .i64 (sm : Int) ∧ sm ≤ 200000000000000 ∧ Hid (sm = nn + rtot (y.fs.take k)) ∧ Hid (Below w.heap.size w wr)) (fun _ iv _ => N - (intOf iv).toNat)
    case atStart => exact ⟨0, nn, Nat.zero_le _, rfl, rfl, by omega, (show nn = nn + rtot (y.fs.take 0) by simp [rtot]), HBn.out⟩
    case round =>
      obtain ⟨k, sm, hk, rfl, rfl, hsm, HSM, HB⟩ := hrel
      by_cases hlt : k < N
      · have dk : (k : Int) < (N : Int) := by omega
        have hkl : k < y.fs.length := by rw [HN.out]; exact hlt
        obtain ⟨x, hx⟩ : ∃ x, x = y.fs[k] := ⟨_, rfl⟩
        obtain ⟨b, off, hab, hbl, hcell⟩ := (HH.out.row.sl.step HB.out).at k x (by rw [hx]; exact List.getElem?_eq_getElem hkl)
        have hab1 : b = b0 := by cases hab; rfl
        have hab2 : off = o0 := by cases hab; rfl
        subst hab1
        subst hab2
        clear hab
        have HCL : Hid (∀ j v, [Value.string ⟨x.nm.toArray⟩, .slice x.ba x.bs.length x.bc, .slice x.ka x.ks.length x.kc][j]? = some v → wr.cell? ⟨b, off + k * 3 + j, none⟩ = some v) := hcell
        have hkx : x.ks.length ≤ 65536 := by
          have h1 := rtot_out (List.getElem_mem hkl)
          rw [← hx] at h1
          have h2 := HH.out.room
          omega
        have hst := rtot_take y.fs k hkl
        rw [← hx] at hst
        have hle := rtot_le_take y.fs (k + 1)
        have hrm := HH.out.room
        have hsum : sm + x.ks.length ≤ 200000000000000 := by have := HSM.out; omega
        have HST : Hid (sm + x.ks.length = nn + rtot (y.fs.take (k + 1))) := (show sm + x.ks.length = nn + rtot (y.fs.take (k + 1)) by have := HSM.out; omega)
        have HB1 : Hid (Below w.heap.size w (wr.alloc (.cells #[.string ⟨x.nm.toArray⟩, .slice x.ba x.bs.length x.bc, .slice x.ka x.ks.length x.kc] 94))) := HB.out.trans (((Below.refl wr.heap.size wr).alloc (Nat.le_refl _) _).mono HB.out.size)
        clear hcell hx hst hle hrm
        go_wp2_with (refine wpList_load_mid rfl 94 _ rfl b (off + k * 3) (by rfl) _ _ HCL.out Try.underlying94 rfl infoF3 ?_)
        go_roundw
        case rel => exact ⟨k + 1, sm + x.ks.length, by omega, by simp, by push_cast; rfl, hsum, HST.out, HB1.out⟩
        case measure => simp [intOf]; omega
      · obtain rfl : k = N := by omega
        have HSM2 : Hid (sm = nn + rtot y.fs) := (show sm = nn + rtot y.fs by have := HSM.out; rw [← HN.out, List.take_length] at this; exact this)
        clear HSM
        have yk := (HB.out.cell (p := ⟨q, 0, none⟩) hlq).trans y0
        go_wp2_with fail
        refine (rfind_ok wr B q _ y (HH.out.step HB.out) s).mono ?_
        rintro e wf ⟨rfl, bf⟩
        rw [HIX.out]
        have HBf : Hid (Below w.heap.size w wf) := HB.out.trans (bf.mono HB.out.size)
        have DF := HH.out.step HBf.out
        have g0 := DF.va.cell 0 (v := .slice (some ⟨b0, o0, none⟩) k fc) (by rw [← HN.out]; rfl)
        have g1 := DF.va.cell 1 (v := .int .i64 (y.room : Int)) rfl
        have g2 := DF.va.cell 2 (v := .bool y.off) rfl
        clear bf yk DF
        have dle : (sm : Int) ≤ (y.room : Int) := by have := HSM2.out; have := HFIT.out; omega
        rw [hof] at g2
        have HCLf : Hid (∀ j v, [Value.string ⟨x0.nm.toArray⟩, .slice x0.ba x0.bs.length x0.bc, .slice x0.ka x0.ks.length x0.kc][j]? = some v → wf.cell? ⟨b0, o0 + i * 3 + j, none⟩ = some v) := fun j v hj => (HBf.out.cell (p := ⟨b0, o0 + i * 3 + j, none⟩) hbl0).trans (HCL0.out j v hj)
        go_upto_region 20 with fail
        have HVB0 : Hid (VA (wf.alloc (.cells #[.string s, .slice none 0 0, .slice none 0 0] 94)) wf.heap.size [.string s, .slice none 0 0, .slice none 0 0] 94) := va_new wf [.string s, .slice none 0 0, .slice none 0 0] _
        have HBb : Hid (Below w.heap.size w (wf.alloc (.cells #[.string s, .slice none 0 0, .slice none 0 0] 94))) := HBf.out.trans (((Below.refl wf.heap.size wf).alloc (Nat.le_refl _) _).mono HBf.out.size)
        have HSZ : Hid (w.heap.size ≤ wf.heap.size) := HBf.out.size
        generalize hgb : wf.alloc (.cells #[.string s, .slice none 0 0, .slice none 0 0] 94) = wb at *
        clear hgb
        have gb0 := (HBb.out.cell (p := ⟨q, 0, none⟩) hlq).trans y0
        have HCLb : Hid (∀ j v, [Value.string ⟨x0.nm.toArray⟩, .slice x0.ba x0.bs.length x0.bc, .slice x0.ka x0.ks.length x0.kc][j]? = some v → wb.cell? ⟨b0, o0 + i * 3 + j, none⟩ = some v) := fun j v hj => (HBb.out.cell (p := ⟨b0, o0 + i * 3 + j, none⟩) hbl0).trans (HCL0.out j v hj)
        have H1C : Hid (∀ v ∈ x0.cells, v.oneCell' = true) := (show ∀ v ∈ x0.cells, v.oneCell' = true by intro v hv; simp only [RF.cells, List.mem_cons, List.not_mem_nil, or_false] at hv; rcases hv with rfl | rfl | rfl <;> rfl)
        clear HCLf g0 g1 g2
        go_upto_region 22 with (first | (refine wpList_load_mid rfl 94 _ rfl b0 (o0 + i * 3) (by rfl) _ _ HCLb.out Try.underlying94 rfl infoF3 ?_) | (refine stA rfl 94 _ _ rfl wf.heap.size (by rfl) _ x0.cells (by rfl) 94 HVB0.out infoF3 rfl H1C.out ?_; intro w3 hv3 hu3; have HVB : Hid (VA w3 wf.heap.size x0.cells 94) := hv3; have HB3 : Hid (Below w.heap.size w w3) := hu3.bel HBb.out HSZ.out; clear hv3 hu3))
        simp only [Act.put, List.setIfInBounds_toArray, List.set_cons_zero, List.set_cons_succ]
        have hq3 : wf.heap.size < w3.heap.size := HVB.out.lt
        have HSW : Hid (w.heap.size ≤ w3.heap.size) := HB3.out.size
        have HB4 : Hid (Below w3.heap.size w3 (w3.alloc (.cells #[] 5))) := (Below.refl _ _).alloc (Nat.le_refl _) _
        have HO4 : Hid (OwnB (w3.alloc (.cells #[] 5)) w3.heap.size (.slice (some ⟨w3.heap.size, 0, none⟩) 0 0) []) := pk.own_made w3
        have HBS4 : Hid (Bs (w3.alloc (.cells #[] 5)) (.slice x0.ba x0.bs.length x0.bc) x0.bs) := (HRF0.out.step HB3.out).b.step HB4.out
        have q1 := (HB4.out.cell (p := ⟨wf.heap.size, 1, none⟩) hq3).trans (HVB.out.cell 1 (v := .slice x0.ba x0.bs.length x0.bc) rfl)
        have hpl2 : plen ≤ 2097152 := by have h1 := HFIT.out; have h2 := HNN.out; unfold cnt at h2; omega
        have hxl : x0.bs.length ≤ 2097152 := by have := HRF0.out.len; omega
        go_upto_region 23 with (at_builtin; refine appB rfl _ _ rfl w3.heap.size [] x0.bs _ _ (by rfl) (by rfl) HO4.out HBS4.out (by simp) (by simp only [List.length_nil]; omega) ?_; intro v5 w5 o5 b5; have HO5 : Hid (OwnB w5 w3.heap.size v5 ([] ++ x0.bs)) := o5; have HB5 : Hid (Below w3.heap.size w3 w5) := HB4.out.trans b5; clear o5 b5)
        have HP5 : Hid (Bs w5 (.slice pa plen pc) bs) := (HPB.out.step HB3.out).step HB5.out
        clear q1
        go_upto_region 24 with (at_builtin; refine appB rfl _ _ rfl w3.heap.size ([] ++ x0.bs) bs _ _ (by rfl) (by rfl) HO5.out HP5.out HB5.out.size (by have := HPL.out; simp only [List.nil_append]; omega) ?_; intro v6 w6 o6 b6; have HO6 : Hid (OwnB w6 w3.heap.size v6 ([] ++ x0.bs ++ bs)) := o6; have HB6 : Hid (Below w3.heap.size w3 w6) := HB5.out.trans b6; obtain ⟨_, a6, c6, hv6, _⟩ := o6.bs; generalize hl6 : ([] ++ x0.bs ++ bs).length = L6 at hv6; subst hv6; have HL6 : Hid (L6 = x0.bs.length + plen) := (show L6 = x0.bs.length + plen by rw [← hl6]; have := HPL.out; simp [this]); clear o6 b6 hl6)
        go_wp2_with fail
        go_loopw [13] (fun bv wr => ∃ (j L : Nat) (sa : Option Addr) (sc : Nat), bv = .slice sa L sc ∧ L ≤ 140737488355328 ∧ Hid (L = x0.bs.length + plen + j) ∧ Hid (plen + j ≤ 32 * nn) ∧ Hid (OwnB wr w3.heap.size (.slice sa L sc) (x0.bs ++ bs ++ List.replicate j 0)) ∧ Hid (Below w3.heap.size w3 wr)) (fun bv _ => 32 * nn + x0.bs.length - lenOf bv)
        case atStart => exact ⟨0, L6, a6, c6, rfl, (by have := HL6.out; omega), (show L6 = _ by have := HL6.out; omega), (show plen + 0 ≤ 32 * nn by have := HNN.out; unfold cnt at this; omega), (by show OwnB _ _ _ _; simpa using HO6.out), HB6.out⟩
        case round =>
          obtain ⟨j, L, sa, sc, rfl, hLb, HLL, HLJ, HOJ, HBJ⟩ := hrel
          have HXL := HRF0.out.len
          have HLM : Hid ((0 < (L : Int) % 32) ↔ plen + j < 32 * nn) := (show (0 < (L : Int) % 32) ↔ plen + j < 32 * nn by have h1 := HLL.out; have h2 := HLJ.out; have h3 := HNN.out; unfold cnt at h3; omega)
          clear HXL
          by_cases hmd : 0 < (L : Int) % 32
          · have HSTP : Hid (plen + (j + 1) ≤ 32 * nn) := (show plen + (j + 1) ≤ 32 * nn by have := HLM.out.1 hmd; omega)
            have HLN : Hid ((x0.bs ++ bs ++ List.replicate j 0).length = L) := (by show _ = L; have h1 := HLL.out; have h2 := HPL.out; simp only [List.length_append, List.length_replicate]; omega)
            have hLl : L + 1 ≤ 140737488355328 := by have h1 := HLL.out; have h2 := HSTP.out; have h3 := HFIT.out; omega
            go_wp2_with (at_builtin; refine appB1 rfl _ _ rfl w3.heap.size (x0.bs ++ bs ++ List.replicate j 0) _ 0 0 (by rfl) (by rfl) rfl (by omega) HOJ.out HBJ.out.size (by rw [HLN.out]; exact hLl) ?_; intro v8 w8 o8 b8; have HO8 : Hid (OwnB w8 w3.heap.size v8 (x0.bs ++ bs ++ List.replicate j 0 ++ [0])) := o8; have HB8 : Hid (Below w3.heap.size w3 w8) := HBJ.out.trans b8; obtain ⟨_, a8, c8, hv8, _⟩ := o8.bs; generalize hl8 : (x0.bs ++ bs ++ List.replicate j 0 ++ [0]).length = L8 at hv8; subst hv8; have HL8 : Hid (L8 = L + 1) := (show L8 = L + 1 by rw [← hl8, List.length_append, HLN.out]; rfl); clear o8 b8 hl8)
            go_roundw
            case rel => exact ⟨j + 1, L8, a8, c8, rfl, (by have := HL8.out; omega), (show L8 = _ by have := HL8.out; have := HLL.out; omega), HSTP.out, (by show OwnB _ _ _ _; have := HO8.out; rw [List.append_assoc (x0.bs ++ bs), ← List.replicate_succ'] at this; exact this), HB8.out⟩
            case measure => simp [lenOf]; have := HL8.out; have := HLL.out; have := HSTP.out; omega
          · have HPD : Hid (x0.bs ++ bs ++ List.replicate j 0 = x0.bs ++ pdd bs) := (show x0.bs ++ bs ++ List.replicate j 0 = x0.bs ++ pdd bs by rw [List.append_assoc]; unfold pdd; have h1 := HPL.out; have h2 := HNN.out; have h3 := HLJ.out; have h4 := HLM.out; rw [h1, ← h2, show 32 * nn - plen = j by omega])
            have HO9 : Hid (OwnB wr w3.heap.size (.slice sa L sc) (x0.bs ++ pdd bs)) := (by show OwnB _ _ _ _; rw [← HPD.out]; exact HOJ.out)
            have HLN9 : Hid ((x0.bs ++ pdd bs).length = L) := (by show _ = L; rw [← HPD.out]; have h1 := HLL.out; have h2 := HPL.out; simp only [List.length_append, List.length_replicate]; omega)
            have HLN8 : Hid ((x0.bs ++ pdd bs).length = 32 * (x0.ks ++ List.replicate nn false).length) := (by show _ = _; rw [HLN9.out, List.length_append, List.length_replicate]; have h1 := HLL.out; have h2 := HRF0.out.len; have h3 := HLJ.out; have h4 := HLM.out; omega)
            clear HPD HOJ
            go_upto_region 26 with fail
            have HBR : Hid (Below w.heap.size w wr) := HB3.out.trans (HBJ.out.mono HSW.out)
            have hqr : wf.heap.size < wr.heap.size := Nat.lt_of_lt_of_le hq3 HBJ.out.size
            have HBK : Hid (Below wr.heap.size wr (wr.alloc (.cells #[] 4))) := (Below.refl _ _).alloc (Nat.le_refl _) _
            have HOK : Hid (Own KB (wr.alloc (.cells #[] 4)) wr.heap.size (.slice (some ⟨wr.heap.size, 0, none⟩) 0 0) []) := own_made KB wr
            have HSK : Hid (Sl KB (wr.alloc (.cells #[] 4)) (.slice x0.ka x0.ks.length x0.kc) x0.ks) := (HRF0.out.step (HBR.out.trans (HBK.out.mono HBR.out.size))).k.sl
            have HNO : Hid (∀ n c, (.slice x0.ka x0.ks.length x0.kc : Value) = .slice none n c → c = 0) := (show ∀ n c, (.slice x0.ka x0.ks.length x0.kc : Value) = .slice none n c → c = 0 from fun n c e => by have h1 := HRF0.out.no; injection e with e1 e2 e3; rw [← e3]; exact h1 e1)
            have q2 := (HBK.out.cell (p := ⟨wf.heap.size, 2, none⟩) hqr).trans ((HBJ.out.cell (p := ⟨wf.heap.size, 2, none⟩) hq3).trans (HVB.out.cell 2 (v := .slice x0.ka x0.ks.length x0.kc) rfl))
            have hnk : nn ≤ 65536 := by have := HFIT.out; omega
            have HPUT : Hid (∀ (wd : World) (ad : Option Addr) (Ld cd : Nat), Below wr.heap.size wr wd → Own KB wd wr.heap.size (.slice ad Ld cd) ([] ++ x0.ks ++ List.replicate nn false) → ([] ++ x0.ks ++ List.replicate nn false).length = Ld → Calls Try.prog 57 #[.pointer (some ⟨q, 0, none⟩), .agg #[.string s, .slice sa L sc, .slice ad Ld cd]] wd fun r w' => (∃ v, r = .returned v) ∧ ∃ f' : RF, f'.nm = s.data.toList ∧ f'.bs = x0.bs ++ pdd bs ∧ f'.ks = x0.ks ++ List.replicate nn false ∧ RLp wd w' B q { y with fs := putL f' false y.fs }) := (by
              intro wd ad Ld cd hbd hod hld
              rw [List.nil_append] at hod hld
              have ho := rtot_out HMEM.out
              rw [HNM.out] at ho
              have hcn := HH.out.cnt
              have hbw : Below w.heap.size w wd := HBR.out.trans (hbd.mono HBR.out.size)
              refine put_app w wd B q _ y HH.out hbw s (by rw [← HNM.out]; exact HRF0.out.nm) (x0.bs ++ pdd bs) (x0.ks ++ List.replicate nn false) sa ad L sc Ld cd w3.heap.size wr.heap.size (HO9.out.stp hbd) hod HLN9.out hld HLN8.out ?_ ?_
              · rw [List.length_append, List.length_replicate]
                have := HFIT.out
                omega
              · omega)
            clear hmd
            go_upto_region 27 with (first | (at_builtin; refine appS (K := KB) rfl _ _ rfl wr.heap.size [] x0.ks _ _ (by rfl) (by rfl) HOK.out HSK.out HNO.out (by simp) (by simp only [List.length_nil]; show (0 + x0.ks.length) * 1 ≤ _; omega) (by simp only [List.length_nil]; omega) ?_; intro va wa oa ba _; have HOa : Hid (Own KB wa wr.heap.size va ([] ++ x0.ks)) := oa; have HBa : Hid (Below wr.heap.size wr wa) := HBK.out.trans ba; clear oa ba) | (go_at_call 58; refine (flags_ok nn hnk false _).mono ?_; rintro e wc ⟨⟨vc, rfl, hNc⟩, bc'⟩; have HNc : Hid (∃ g, vc = .slice (some ⟨g, 0, none⟩) nn nn ∧ Sl KB wc vc (List.replicate nn false)) := (by show ∃ g, _; obtain ⟨g, e1, _, e3, _⟩ := hNc.in (by rw [List.length_replicate]; omega); rw [List.length_replicate] at e1; exact ⟨g, e1, e3.sl⟩); have HOc : Hid (Own KB wc wr.heap.size va ([] ++ x0.ks)) := HOa.out.step bc'; have HBc : Hid (Below wr.heap.size wr wc) := HBa.out.trans (bc'.mono HBa.out.size); clear hNc bc'; obtain ⟨gc, rfl, hSc⟩ := HNc.out; have HSc : Hid (Sl KB wc (.slice (some ⟨gc, 0, none⟩) nn nn) (List.replicate nn false)) := hSc; clear hSc HNc) | (at_builtin; refine appS (K := KB) rfl _ _ rfl wr.heap.size ([] ++ x0.ks) (List.replicate nn false) _ _ (by rfl) (by rfl) HOc.out HSc.out (fun n c e => by cases e) HBc.out.size (by rw [List.length_replicate]; simp only [List.nil_append]; show (x0.ks.length + nn) * 1 ≤ _; omega) (by rw [List.length_replicate]; simp only [List.nil_append]; omega) ?_; intro vd wd od bd _; have HOd : Hid (Own KB wd wr.heap.size vd ([] ++ x0.ks ++ List.replicate nn false)) := od; have HBd : Hid (Below wr.heap.size wr wd) := HBc.out.trans bd; obtain ⟨ad, cd, hvd, _⟩ := od.form; generalize hld : ([] ++ x0.ks ++ List.replicate nn false).length = Ld at hvd; subst hvd; have HLd : Hid (([] ++ x0.ks ++ List.replicate nn false).length = Ld) := hld; clear od bd hld) | (go_at_call 57; refine (HPUT.out wd ad Ld cd HBd.out HOd.out HLd.out).mono ?_; rintro e wp ⟨⟨vp, rfl⟩, f', ef1, ef2, ef3, hRL⟩; have HRL : Hid (RLp w wp B q { y with fs := putL f' false y.fs }) := hRL.back (HBR.out.trans (HBd.out.mono HBR.out.size)); have HE1 : Hid (f'.nm = s.data.toList) := ef1; have HE2 : Hid (f'.bs = x0.bs ++ pdd bs) := ef2; have HE3 : Hid (f'.ks = x0.ks ++ List.replicate nn false) := ef3; clear ef1 ef2 ef3 hRL))
            obtain ⟨⟨fv2, hD2⟩, kr2, bl2⟩ := HRL.out.lv HH.out
            have HD2 : Hid (RD wp B q fv2 { y with fs := putL f' false y.fs }) := hD2
            have HKR2 : Hid (KeR w wp) := kr2
            have HBL2 : Hid (Below B w wp) := bl2
            have HFS : Hid (ra (putL f' false y.fs) = putA (s.data.toList, x0.bs ++ pdd bs, x0.ks ++ List.replicate (cnt plen) false) false (ra y.fs)) := (by show _ = _; rw [ra_put, HE1.out, HE2.out, HE3.out, HNN.out])
            clear hD2 kr2 bl2
            go_wp2_with fail
            refine (goes_ok wp B q _ _ HD2.out hof ho har).mono ?_
            rintro e wg ⟨rfl, hD, hkr, hbl⟩
            have HD : Hid (RD wg B q fv2 (rbeg { y with fs := putL f' false y.fs })) := hD
            have HKR : Hid (KeR w wg) := HKR2.out.trans hkr
            have HBL : Hid (Below B w wg) := HBL2.out.trans hbl
            have V := hD.va
            have HV : Hid (VA wg q ((rbeg { y with fs := putL f' false y.fs }).cells fv2) 66) := V
            have z5 := V.cell 5 (v := .int .i64 y.last) rfl
            have f5 := V.free 5
            clear hD V hkr hbl
            by_cases hg : (rbeg y).off = true
            · rw [show (rbeg { y with fs := putL f' false y.fs }).off = true from hg]
              have HG := (show Hid ((rbeg y).off = true) from hg)
              clear hg
              go_wp2_with fail
              go_ret
              have h5 := HD.out.head (y' := { rbeg { y with fs := putL f' false y.fs } with last := 0 }) (upd_set wg q 5 (.int .i64 0)) (HV.out.set 5 (.int .i64 0)) rfl rfl
              obtain ⟨y5, h6, h7⟩ : ∃ y5, rs y5 = appR (rs y) (s.data.toList, x0.bs ++ pdd bs, x0.ks ++ List.replicate (cnt plen) false) ∧ RLv w (wg.setCell ⟨q, 5, none⟩ (.int .i64 0)) B q y5 := by
                refine ⟨{ rbeg { y with fs := putL f' false y.fs } with last := 0 }, ?_, ⟨_, h5.1⟩, HKR.out.trans h5.2.1, HBL.out.trans h5.2.2⟩
                show ({ rs (rbeg y) with fs := ra (putL f' false y.fs), last := 0 } : RS) = _
                unfold appR
                rw [HFS.out, show (begS (rs y)).off = _ from HG.out]
                rfl
              first | exact ⟨y5, by rw [HG.out]; rfl, h6, h7⟩ | exact ⟨by rw [HG.out]; rfl, y5, h6, h7⟩
            · have hg2 : (rbeg y).off = false := by simpa using hg
              rw [show (rbeg { y with fs := putL f' false y.fs }).off = false from hg2]
              have HG := (show Hid ((rbeg y).off = false) from hg2)
              clear hg hg2
              go_wp2_with fail
              go_ret
              obtain ⟨y5, h6, h7⟩ : ∃ y5, rs y5 = appR (rs y) (s.data.toList, x0.bs ++ pdd bs, x0.ks ++ List.replicate (cnt plen) false) ∧ RLv w wg B q y5 := by
                refine ⟨rbeg { y with fs := putL f' false y.fs }, ?_, ⟨_, HD.out⟩, HKR.out, HBL.out⟩
                show ({ rs (rbeg y) with fs := ra (putL f' false y.fs) } : RS) = _
                unfold appR
                rw [HFS.out, show (begS (rs y)).off = _ from HG.out]
                rfl
              first | exact ⟨y5, by rw [HG.out]; rfl, h6, h7⟩ | exact ⟨by rw [HG.out]; rfl, y5, h6, h7⟩
  · have m0 : 0 < (plen : Int) % 32 := by omega
    have m1 : ((nn : Nat) : Int) = (plen : Int) / 32 + 1 := by have := HNN.out; unfold cnt at this; omega
    have m2 : (plen : Int) / 32 + 1 ≤ 140737488355328 := by omega
    go_enter Try.func30, Try.ntmps30
    go_wp2_with fail
    refine (rname_ok s _ hs).mono ?_
    rintro e wn ⟨rfl, bn⟩
    rw [hna]
    have HBn : Hid (Below w.heap.size w wn) := bn
    have yn := (bn.cell (p := ⟨q, 0, none⟩) hlq).trans y0
    clear bn
    go_wp2_with fail
    rw [← m1]
    clear m1 m0 hm
    try clear m2
    go_loopw [8, 34] (fun al iv wr => ∃ (k sm : Nat), k ≤ N ∧ iv = .int .i64 (k : Int) ∧ al = .int .i64 (sm : Int) ∧ sm ≤ 200000000000000 ∧ Hid (sm = nn + rtot (y.fs.take k)) ∧ Hid (Below w.heap.size w wr)) (fun _ iv _ => N - (intOf iv).toNat)
    case atStart => exact ⟨0, nn, Nat.zero_le _, rfl, rfl, by omega, (show nn = nn + rtot (y.fs.take 0) by simp [rtot]), HBn.out⟩
    case round =>
      obtain ⟨k, sm, hk, rfl, rfl, hsm, HSM, HB⟩ := hrel
      by_cases hlt : k < N
      · have dk : (k : Int) < (N : Int) := by omega
        have hkl : k < y.fs.length := by rw [HN.out]; exact hlt
        obtain ⟨x, hx⟩ : ∃ x, x = y.fs[k] := ⟨_, rfl⟩
        obtain ⟨b, off, hab, hbl, hcell⟩ := (HH.out.row.sl.step HB.out).at k x (by rw [hx]; exact List.getElem?_eq_getElem hkl)
        have hab1 : b = b0 := by cases hab; rfl
        have hab2 : off = o0 := by cases hab; rfl
        subst hab1
        subst hab2
        clear hab
        have HCL : Hid (∀ j v, [Value.string ⟨x.nm.toArray⟩, .slice x.ba x.bs.length x.bc, .slice x.ka x.ks.length x.kc][j]? = some v → wr.cell? ⟨b, off + k * 3 + j, none⟩ = some v) := hcell
        have hkx : x.ks.length ≤ 65536 := by
          have h1 := rtot_out (List.getElem_mem hkl)
          rw [← hx] at h1
          have h2 := HH.out.room
          omega
        have hst := rtot_take y.fs k hkl
        rw [← hx] at hst
        have hle := rtot_le_take y.fs (k + 1)
        have hrm := HH.out.room
        have hsum : sm + x.ks.length ≤ 200000000000000 := by have := HSM.out; omega
        have HST : Hid (sm + x.ks.length = nn + rtot (y.fs.take (k + 1))) := (show sm + x.ks.length = nn + rtot (y.fs.take (k + 1)) by have := HSM.out; omega)
        have HB1 : Hid (Below w.heap.size w (wr.alloc (.cells #[.string ⟨x.nm.toArray⟩, .slice x.ba x.bs.length x.bc, .slice x.ka x.ks.length x.kc] 94))) := HB.out.trans (((Below.refl wr.heap.size wr).alloc (Nat.le_refl _) _).mono HB.out.size)
        clear hcell hx hst hle hrm
        go_wp2_with (refine wpList_load_mid rfl 94 _ rfl b (off + k * 3) (by rfl) _ _ HCL.out Try.underlying94 rfl infoF3 ?_)
        go_roundw
        case rel => exact ⟨k + 1, sm + x.ks.length, by omega, by simp, by push_cast; rfl, hsum, HST.out, HB1.out⟩
        case measure => simp [intOf]; omega
      · obtain rfl : k = N := by omega
        have HSM2 : Hid (sm = nn + rtot y.fs) := (show sm = nn + rtot y.fs by have := HSM.out; rw [← HN.out, List.take_length] at this; exact this)
        clear HSM
        have yk := (HB.out.cell (p := ⟨q, 0, none⟩) hlq).trans y0
        go_wp2_with fail
        refine (rfind_ok wr B q _ y (HH.out.step HB.out) s).mono ?_
        rintro e wf ⟨rfl, bf⟩
        rw [HIX.out]
        have HBf : Hid (Below w.heap.size w wf) := HB.out.trans (bf.mono HB.out.size)
        have DF := HH.out.step HBf.out
        have g0 := DF.va.cell 0 (v := .slice (some ⟨b0, o0, none⟩) k fc) (by rw [← HN.out]; rfl)
        have g1 := DF.va.cell 1 (v := .int .i64 (y.room : Int)) rfl
        have g2 := DF.va.cell 2 (v := .bool y.off) rfl
        clear bf yk DF
        have dle : (sm : Int) ≤ (y.room : Int) := by have := HSM2.out; have := HFIT.out; omega
        rw [hof] at g2
        have HCLf : Hid (∀ j v, [Value.string ⟨x0.nm.toArray⟩, .slice x0.ba x0.bs.length x0.bc, .slice x0.ka x0.ks.length x0.kc][j]? = some v → wf.cell? ⟨b0, o0 + i * 3 + j, none⟩ = some v) := fun j v hj => (HBf.out.cell (p := ⟨b0, o0 + i * 3 + j, none⟩) hbl0).trans (HCL0.out j v hj)
        go_upto_region 20 with fail
        have HVB0 : Hid (VA (wf.alloc (.cells #[.string s, .slice none 0 0, .slice none 0 0] 94)) wf.heap.size [.string s, .slice none 0 0, .slice none 0 0] 94) := va_new wf [.string s, .slice none 0 0, .slice none 0 0] _
        have HBb : Hid (Below w.heap.size w (wf.alloc (.cells #[.string s, .slice none 0 0, .slice none 0 0] 94))) := HBf.out.trans (((Below.refl wf.heap.size wf).alloc (Nat.le_refl _) _).mono HBf.out.size)
        have HSZ : Hid (w.heap.size ≤ wf.heap.size) := HBf.out.size
        generalize hgb : wf.alloc (.cells #[.string s, .slice none 0 0, .slice none 0 0] 94) = wb at *
        clear hgb
        have gb0 := (HBb.out.cell (p := ⟨q, 0, none⟩) hlq).trans y0
        have HCLb : Hid (∀ j v, [Value.string ⟨x0.nm.toArray⟩, .slice x0.ba x0.bs.length x0.bc, .slice x0.ka x0.ks.length x0.kc][j]? = some v → wb.cell? ⟨b0, o0 + i * 3 + j, none⟩ = some v) := fun j v hj => (HBb.out.cell (p := ⟨b0, o0 + i * 3 + j, none⟩) hbl0).trans (HCL0.out j v hj)
        have H1C : Hid (∀ v ∈ x0.cells, v.oneCell' = true) := (show ∀ v ∈ x0.cells, v.oneCell' = true by intro v hv; simp only [RF.cells, List.mem_cons, List.not_mem_nil, or_false] at hv; rcases hv with rfl | rfl | rfl <;> rfl)
        clear HCLf g0 g1 g2
        go_upto_region 22 with (first | (refine wpList_load_mid rfl 94 _ rfl b0 (o0 + i * 3) (by rfl) _ _ HCLb.out Try.underlying94 rfl infoF3 ?_) | (refine stA rfl 94 _ _ rfl wf.heap.size (by rfl) _ x0.cells (by rfl) 94 HVB0.out infoF3 rfl H1C.out ?_; intro w3 hv3 hu3; have HVB : Hid (VA w3 wf.heap.size x0.cells 94) := hv3; have HB3 : Hid (Below w.heap.size w w3) := hu3.bel HBb.out HSZ.out; clear hv3 hu3))
        simp only [Act.put, List.setIfInBounds_toArray, List.set_cons_zero, List.set_cons_succ]
        have hq3 : wf.heap.size < w3.heap.size := HVB.out.lt
        have HSW : Hid (w.heap.size ≤ w3.heap.size) := HB3.out.size
        have HB4 : Hid (Below w3.heap.size w3 (w3.alloc (.cells #[] 5))) := (Below.refl _ _).alloc (Nat.le_refl _) _
        have HO4 : Hid (OwnB (w3.alloc (.cells #[] 5)) w3.heap.size (.slice (some ⟨w3.heap.size, 0, none⟩) 0 0) []) := pk.own_made w3
        have HBS4 : Hid (Bs (w3.alloc (.cells #[] 5)) (.slice x0.ba x0.bs.length x0.bc) x0.bs) := (HRF0.out.step HB3.out).b.step HB4.out
        have q1 := (HB4.out.cell (p := ⟨wf.heap.size, 1, none⟩) hq3).trans (HVB.out.cell 1 (v := .slice x0.ba x0.bs.length x0.bc) rfl)
        have hpl2 : plen ≤ 2097152 := by have h1 := HFIT.out; have h2 := HNN.out; unfold cnt at h2; omega
        have hxl : x0.bs.length ≤ 2097152 := by have := HRF0.out.len; omega
        go_upto_region 23 with (at_builtin; refine appB rfl _ _ rfl w3.heap.size [] x0.bs _ _ (by rfl) (by rfl) HO4.out HBS4.out (by simp) (by simp only [List.length_nil]; omega) ?_; intro v5 w5 o5 b5; have HO5 : Hid (OwnB w5 w3.heap.size v5 ([] ++ x0.bs)) := o5; have HB5 : Hid (Below w3.heap.size w3 w5) := HB4.out.trans b5; clear o5 b5)
        have HP5 : Hid (Bs w5 (.slice pa plen pc) bs) := (HPB.out.step HB3.out).step HB5.out
        clear q1
        go_upto_region 24 with (at_builtin; refine appB rfl _ _ rfl w3.heap.size ([] ++ x0.bs) bs _ _ (by rfl) (by rfl) HO5.out HP5.out HB5.out.size (by have := HPL.out; simp only [List.nil_append]; omega) ?_; intro v6 w6 o6 b6; have HO6 : Hid (OwnB w6 w3.heap.size v6 ([] ++ x0.bs ++ bs)) := o6; have HB6 : Hid (Below w3.heap.size w3 w6) := HB5.out.trans b6; obtain ⟨_, a6, c6, hv6, _⟩ := o6.bs; generalize hl6 : ([] ++ x0.bs ++ bs).length = L6 at hv6; subst hv6; have HL6 : Hid (L6 = x0.bs.length + plen) := (show L6 = x0.bs.length + plen by rw [← hl6]; have := HPL.out; simp [this]); clear o6 b6 hl6)
        go_wp2_with fail
        go_loopw [13] (fun bv wr => ∃ (j L : Nat) (sa : Option Addr) (sc : Nat), bv = .slice sa L sc ∧ L ≤ 140737488355328 ∧ Hid (L = x0.bs.length + plen + j) ∧ Hid (plen + j ≤ 32 * nn) ∧ Hid (OwnB wr w3.heap.size (.slice sa L sc) (x0.bs ++ bs ++ List.replicate j 0)) ∧ Hid (Below w3.heap.size w3 wr)) (fun bv _ => 32 * nn + x0.bs.length - lenOf bv)
        case atStart => exact ⟨0, L6, a6, c6, rfl, (by have := HL6.out; omega), (show L6 = _ by have := HL6.out; omega), (show plen + 0 ≤ 32 * nn by have := HNN.out; unfold cnt at this; omega), (by show OwnB _ _ _ _; simpa using HO6.out), HB6.out⟩
        case round =>
          obtain ⟨j, L, sa, sc, rfl, hLb, HLL, HLJ, HOJ, HBJ⟩ := hrel
          have HXL := HRF0.out.len
          have HLM : Hid ((0 < (L : Int) % 32) ↔ plen + j < 32 * nn) := (show (0 < (L : Int) % 32) ↔ plen + j < 32 * nn by have h1 := HLL.out; have h2 := HLJ.out; have h3 := HNN.out; unfold cnt at h3; omega)
          clear HXL
          by_cases hmd : 0 < (L : Int) % 32
          · have HSTP : Hid (plen + (j + 1) ≤ 32 * nn) := (show plen + (j + 1) ≤ 32 * nn by have := HLM.out.1 hmd; omega)
            have HLN : Hid ((x0.bs ++ bs ++ List.replicate j 0).length = L) := (by show _ = L; have h1 := HLL.out; have h2 := HPL.out; simp only [List.length_append, List.length_replicate]; omega)
            have hLl : L + 1 ≤ 140737488355328 := by have h1 := HLL.out; have h2 := HSTP.out; have h3 := HFIT.out; omega
            go_wp2_with (at_builtin; refine appB1 rfl _ _ rfl w3.heap.size (x0.bs ++ bs ++ List.replicate j 0) _ 0 0 (by rfl) (by rfl) rfl (by omega) HOJ.out HBJ.out.size (by rw [HLN.out]; exact hLl) ?_; intro v8 w8 o8 b8; have HO8 : Hid (OwnB w8 w3.heap.size v8 (x0.bs ++ bs ++ List.replicate j 0 ++ [0])) := o8; have HB8 : Hid (Below w3.heap.size w3 w8) := HBJ.out.trans b8; obtain ⟨_, a8, c8, hv8, _⟩ := o8.bs; generalize hl8 : (x0.bs ++ bs ++ List.replicate j 0 ++ [0]).length = L8 at hv8; subst hv8; have HL8 : Hid (L8 = L + 1) := (show L8 = L + 1 by rw [← hl8, List.length_append, HLN.out]; rfl); clear o8 b8 hl8)
            go_roundw
            case rel => exact ⟨j + 1, L8, a8, c8, rfl, (by have := HL8.out; omega), (show L8 = _ by have := HL8.out; have := HLL.out; omega), HSTP.out, (by show OwnB _ _ _ _; have := HO8.out; rw [List.append_assoc (x0.bs ++ bs), ← List.replicate_succ'] at this; exact this), HB8.out⟩
            case measure => simp [lenOf]; have := HL8.out; have := HLL.out; have := HSTP.out; omega
          · have HPD : Hid (x0.bs ++ bs ++ List.replicate j 0 = x0.bs ++ pdd bs) := (show x0.bs ++ bs ++ List.replicate j 0 = x0.bs ++ pdd bs by rw [List.append_assoc]; unfold pdd; have h1 := HPL.out; have h2 := HNN.out; have h3 := HLJ.out; have h4 := HLM.out; rw [h1, ← h2, show 32 * nn - plen = j by omega])
            have HO9 : Hid (OwnB wr w3.heap.size (.slice sa L sc) (x0.bs ++ pdd bs)) := (by show OwnB _ _ _ _; rw [← HPD.out]; exact HOJ.out)
            have HLN9 : Hid ((x0.bs ++ pdd bs).length = L) := (by show _ = L; rw [← HPD.out]; have h1 := HLL.out; have h2 := HPL.out; simp only [List.length_append, List.length_replicate]; omega)
            have HLN8 : Hid ((x0.bs ++ pdd bs).length = 32 * (x0.ks ++ List.replicate nn false).length) := (by show _ = _; rw [HLN9.out, List.length_append, List.length_replicate]; have h1 := HLL.out; have h2 := HRF0.out.len; have h3 := HLJ.out; have h4 := HLM.out; omega)
            clear HPD HOJ
            go_upto_region 26 with fail
            have HBR : Hid (Below w.heap.size w wr) := HB3.out.trans (HBJ.out.mono HSW.out)
            have hqr : wf.heap.size < wr.heap.size := Nat.lt_of_lt_of_le hq3 HBJ.out.size
            have HBK : Hid (Below wr.heap.size wr (wr.alloc (.cells #[] 4))) := (Below.refl _ _).alloc (Nat.le_refl _) _
            have HOK : Hid (Own KB (wr.alloc (.cells #[] 4)) wr.heap.size (.slice (some ⟨wr.heap.size, 0, none⟩) 0 0) []) := own_made KB wr
            have HSK : Hid (Sl KB (wr.alloc (.cells #[] 4)) (.slice x0.ka x0.ks.length x0.kc) x0.ks) := (HRF0.out.step (HBR.out.trans (HBK.out.mono HBR.out.size))).k.sl
            have HNO : Hid (∀ n c, (.slice x0.ka x0.ks.length x0.kc : Value) = .slice none n c → c = 0) := (show ∀ n c, (.slice x0.ka x0.ks.length x0.kc : Value) = .slice none n c → c = 0 from fun n c e => by have h1 := HRF0.out.no; injection e with e1 e2 e3; rw [← e3]; exact h1 e1)
            have q2 := (HBK.out.cell (p := ⟨wf.heap.size, 2, none⟩) hqr).trans ((HBJ.out.cell (p := ⟨wf.heap.size, 2, none⟩) hq3).trans (HVB.out.cell 2 (v := .slice x0.ka x0.ks.length x0.kc) rfl))
            have hnk : nn ≤ 65536 := by have := HFIT.out; omega
            have HPUT : Hid (∀ (wd : World) (ad : Option Addr) (Ld cd : Nat), Below wr.heap.size wr wd → Own KB wd wr.heap.size (.slice ad Ld cd) ([] ++ x0.ks ++ List.replicate nn false) → ([] ++ x0.ks ++ List.replicate nn false).length = Ld → Calls Try.prog 57 #[.pointer (some ⟨q, 0, none⟩), .agg #[.string s, .slice sa L sc, .slice ad Ld cd]] wd fun r w' => (∃ v, r = .returned v) ∧ ∃ f' : RF, f'.nm = s.data.toList ∧ f'.bs = x0.bs ++ pdd bs ∧ f'.ks = x0.ks ++ List.replicate nn false ∧ RLp wd w' B q { y with fs := putL f' false y.fs }) := (by
              intro wd ad Ld cd hbd hod hld
              rw [List.nil_append] at hod hld
              have ho := rtot_out HMEM.out
              rw [HNM.out] at ho
              have hcn := HH.out.cnt
              have hbw : Below w.heap.size w wd := HBR.out.trans (hbd.mono HBR.out.size)
              refine put_app w wd B q _ y HH.out hbw s (by rw [← HNM.out]; exact HRF0.out.nm) (x0.bs ++ pdd bs) (x0.ks ++ List.replicate nn false) sa ad L sc Ld cd w3.heap.size wr.heap.size (HO9.out.stp hbd) hod HLN9.out hld HLN8.out ?_ ?_
              · rw [List.length_append, List.length_replicate]
                have := HFIT.out
                omega
              · omega)
            clear hmd
            go_upto_region 27 with (first | (at_builtin; refine appS (K := KB) rfl _ _ rfl wr.heap.size [] x0.ks _ _ (by rfl) (by rfl) HOK.out HSK.out HNO.out (by simp) (by simp only [List.length_nil]; show (0 + x0.ks.length) * 1 ≤ _; omega) (by simp only [List.length_nil]; omega) ?_; intro va wa oa ba _; have HOa : Hid (Own KB wa wr.heap.size va ([] ++ x0.ks)) := oa; have HBa : Hid (Below wr.heap.size wr wa) := HBK.out.trans ba; clear oa ba) | (go_at_call 58; refine (flags_ok nn hnk false _).mono ?_; rintro e wc ⟨⟨vc, rfl, hNc⟩, bc'⟩; have HNc : Hid (∃ g, vc = .slice (some ⟨g, 0, none⟩) nn nn ∧ Sl KB wc vc (List.replicate nn false)) := (by show ∃ g, _; obtain ⟨g, e1, _, e3, _⟩ := hNc.in (by rw [List.length_replicate]; omega); rw [List.length_replicate] at e1; exact ⟨g, e1, e3.sl⟩); have HOc : Hid (Own KB wc wr.heap.size va ([] ++ x0.ks)) := HOa.out.step bc'; have HBc : Hid (Below wr.heap.size wr wc) := HBa.out.trans (bc'.mono HBa.out.size); clear hNc bc'; obtain ⟨gc, rfl, hSc⟩ := HNc.out; have HSc : Hid (Sl KB wc (.slice (some ⟨gc, 0, none⟩) nn nn) (List.replicate nn false)) := hSc; clear hSc HNc) | (at_builtin; refine appS (K := KB) rfl _ _ rfl wr.heap.size ([] ++ x0.ks) (List.replicate nn false) _ _ (by rfl) (by rfl) HOc.out HSc.out (fun n c e => by cases e) HBc.out.size (by rw [List.length_replicate]; simp only [List.nil_append]; show (x0.ks.length + nn) * 1 ≤ _; omega) (by rw [List.length_replicate]; simp only [List.nil_append]; omega) ?_; intro vd wd od bd _; have HOd : Hid (Own KB wd wr.heap.size vd ([] ++ x0.ks ++ List.replicate nn false)) := od; have HBd : Hid (Below wr.heap.size wr wd) := HBc.out.trans bd; obtain ⟨ad, cd, hvd, _⟩ := od.form; generalize hld : ([] ++ x0.ks ++ List.replicate nn false).length = Ld at hvd; subst hvd; have HLd : Hid (([] ++ x0.ks ++ List.replicate nn false).length = Ld) := hld; clear od bd hld) | (go_at_call 57; refine (HPUT.out wd ad Ld cd HBd.out HOd.out HLd.out).mono ?_; rintro e wp ⟨⟨vp, rfl⟩, f', ef1, ef2, ef3, hRL⟩; have HRL : Hid (RLp w wp B q { y with fs := putL f' false y.fs }) := hRL.back (HBR.out.trans (HBd.out.mono HBR.out.size)); have HE1 : Hid (f'.nm = s.data.toList) := ef1; have HE2 : Hid (f'.bs = x0.bs ++ pdd bs) := ef2; have HE3 : Hid (f'.ks = x0.ks ++ List.replicate nn false) := ef3; clear ef1 ef2 ef3 hRL))
            obtain ⟨⟨fv2, hD2⟩, kr2, bl2⟩ := HRL.out.lv HH.out
            have HD2 : Hid (RD wp B q fv2 { y with fs := putL f' false y.fs }) := hD2
            have HKR2 : Hid (KeR w wp) := kr2
            have HBL2 : Hid (Below B w wp) := bl2
            have HFS : Hid (ra (putL f' false y.fs) = putA (s.data.toList, x0.bs ++ pdd bs, x0.ks ++ List.replicate (cnt plen) false) false (ra y.fs)) := (by show _ = _; rw [ra_put, HE1.out, HE2.out, HE3.out, HNN.out])
            clear hD2 kr2 bl2
            go_wp2_with fail
            refine (goes_ok wp B q _ _ HD2.out hof ho har).mono ?_
            rintro e wg ⟨rfl, hD, hkr, hbl⟩
            have HD : Hid (RD wg B q fv2 (rbeg { y with fs := putL f' false y.fs })) := hD
            have HKR : Hid (KeR w wg) := HKR2.out.trans hkr
            have HBL : Hid (Below B w wg) := HBL2.out.trans hbl
            have V := hD.va
            have HV : Hid (VA wg q ((rbeg { y with fs := putL f' false y.fs }).cells fv2) 66) := V
            have z5 := V.cell 5 (v := .int .i64 y.last) rfl
            have f5 := V.free 5
            clear hD V hkr hbl
            by_cases hg : (rbeg y).off = true
            · rw [show (rbeg { y with fs := putL f' false y.fs }).off = true from hg]
              have HG := (show Hid ((rbeg y).off = true) from hg)
              clear hg
              go_wp2_with fail
              go_ret
              have h5 := HD.out.head (y' := { rbeg { y with fs := putL f' false y.fs } with last := 0 }) (upd_set wg q 5 (.int .i64 0)) (HV.out.set 5 (.int .i64 0)) rfl rfl
              obtain ⟨y5, h6, h7⟩ : ∃ y5, rs y5 = appR (rs y) (s.data.toList, x0.bs ++ pdd bs, x0.ks ++ List.replicate (cnt plen) false) ∧ RLv w (wg.setCell ⟨q, 5, none⟩ (.int .i64 0)) B q y5 := by
                refine ⟨{ rbeg { y with fs := putL f' false y.fs } with last := 0 }, ?_, ⟨_, h5.1⟩, HKR.out.trans h5.2.1, HBL.out.trans h5.2.2⟩
                show ({ rs (rbeg y) with fs := ra (putL f' false y.fs), last := 0 } : RS) = _
                unfold appR
                rw [HFS.out, show (begS (rs y)).off = _ from HG.out]
                rfl
              first | exact ⟨y5, by rw [HG.out]; rfl, h6, h7⟩ | exact ⟨by rw [HG.out]; rfl, y5, h6, h7⟩
            · have hg2 : (rbeg y).off = false := by simpa using hg
              rw [show (rbeg { y with fs := putL f' false y.fs }).off = false from hg2]
              have HG := (show Hid ((rbeg y).off = false) from hg2)
              clear hg hg2
              go_wp2_with fail
              go_ret
              obtain ⟨y5, h6, h7⟩ : ∃ y5, rs y5 = appR (rs y) (s.data.toList, x0.bs ++ pdd bs, x0.ks ++ List.replicate (cnt plen) false) ∧ RLv w wg B q y5 := by
                refine ⟨rbeg { y with fs := putL f' false y.fs }, ?_, ⟨_, HD.out⟩, HKR.out, HBL.out⟩
                show ({ rs (rbeg y) with fs := ra (putL f' false y.fs) } : RS) = _
                unfold appR
                rw [HFS.out, show (begS (rs y)).off = _ from HG.out]
                rfl
              first | exact ⟨y5, by rw [HG.out]; rfl, h6, h7⟩ | exact ⟨by rw [HG.out]; rfl, y5, h6, h7⟩
end Go.Proofs.Ytakgkpiicigihaa
/- disk L: the document's Append, where it is done. -/
namespace Go.Proofs.Ytakgkpiicigihaa
open Go.RowKit Go.Maps Go.Sort Go.Shelf pk
set_option linter.unusedVariables false
set_option linter.unusedSimpArgs false

theorem rf_new (w : World) (l : List UInt8) (hl : l.length ≤ 16) : Rf w ⟨l, none, 0, [], none, 0, []⟩ :=
  ⟨⟨By.nil, none, 0, rfl, Nat.le_refl _, by omega, fun _ => rfl, fun h => by simp at h⟩, fun b off n c e => (by cases e), ⟨none, 0, rfl, Nat.le_refl _, by omega, fun h => by simp at h⟩, fun b off n c e => (by cases e), rfl, fun _ => rfl, hl⟩

set_option maxRecDepth 100000 in
set_option maxHeartbeats 2000000 in
theorem rappend_new (w : World) (B q : Nat) (fv : Value) (y : RK) (h : RD w B q fv y) (s : ByteArray) (hs : s.size ≤ 9223372036854775807) (v : Value) (bs : List Nat) (hb : Bs w v bs) (hl : bs.length ≤ 140737488351232) (hna : isNm s.data.toList = true) (hof : y.off = false)
    (hfit : cnt bs.length + rtot y.fs ≤ y.room) (hi : rix y.fs s.data.toList = none) (hc64 : y.fs.length < 64) (ho : y.ops ≤ 4611686018427387904) (har : y.armed ≤ 9223372036854775807) :
    Calls Try.prog 30 #[ptr q, .string s, v] w fun r w' => ∃ y', r = .returned (.int .i64 (appE (rbeg y).off)) ∧ rs y' = appR (rs y) (s.data.toList, pdd bs, List.replicate (cnt bs.length) false) ∧ RLv w w' B q y' := by
  have HPB := (show Hid _ from hb)
  obtain ⟨hby, pa, pc, hpv, hp1, hp2, _⟩ := hb
  subst hpv
  obtain ⟨fa, fc, hfv, hc1, hc2⟩ := h.row.form
  subst hfv
  have HH := (show Hid _ from h)
  have HIX : Hid (rixI y.fs s.data.toList = (-1 : Int)) := (show rixI y.fs s.data.toList = (-1 : Int) by unfold rixI; rw [hi])
  have hln16 : s.data.toList.length ≤ 16 := by unfold isNm at hna; simp only [Bool.and_eq_true, decide_eq_true_eq] at hna; exact hna.1.2
  obtain ⟨x0, hx0⟩ : ∃ x0 : RF, x0 = ⟨s.data.toList, none, 0, [], none, 0, []⟩ := ⟨_, rfl⟩
  have HRF0 : Hid (Rf w x0) := (by show Rf w x0; rw [hx0]; exact rf_new w _ hln16)
  have HX0 : Hid (x0 = ⟨s.data.toList, none, 0, [], none, 0, []⟩) := hx0
  have HNM : Hid (x0.nm = s.data.toList) := (by show _ = _; rw [hx0])
  have hkl0 : x0.ks.length ≤ 65536 := by rw [hx0]; exact Nat.zero_le _
  have HOUT : Hid (rtot (y.fs.filter (fun g => decide (g.nm ≠ s.data.toList))) + x0.ks.length ≤ rtot y.fs ∧ (y.fs.filter (fun g => decide (g.nm ≠ s.data.toList))).length + 1 ≤ 64) := (by
    show _ ∧ _
    have h1 := rtot_filter (fun g => decide (g.nm ≠ s.data.toList)) y.fs
    have h2 := List.length_filter_le (fun g : RF => decide (g.nm ≠ s.data.toList)) y.fs
    rw [hx0]
    exact ⟨h1, by omega⟩)
  clear hx0 hi
  have hcnt := h.cnt
  have hroom := h.room
  have hlq := h.va.lt
  have y0 := h.va.cell 0 (v := .slice fa y.fs.length fc) rfl
  generalize hN : y.fs.length = N at *
  have HN := (show Hid _ from hN)
  generalize hPl : bs.length = plen at *
  have HPL : Hid (bs.length = plen) := hPl
  obtain ⟨nn, hnn⟩ : ∃ nn, nn = cnt plen := ⟨_, rfl⟩
  have HNN : Hid (nn = cnt plen) := hnn
  have hnb : nn ≤ 4398046511105 := by rw [hnn]; unfold cnt; omega
  have hp : (ptr q) = .pointer (some ⟨q, 0, none⟩) := rfl
  rw [hp]
  clear h hN hPl hby
  have HFIT : Hid (nn + rtot y.fs ≤ y.room) := (show nn + rtot y.fs ≤ y.room by rw [hnn]; exact hfit)
  clear hnn hfit
  by_cases hm : plen % 32 = 0
  · have m0 : (plen : Int) % 32 = 0 := by omega
    have m1 : ((nn : Nat) : Int) = (plen : Int) / 32 := by have := HNN.out; unfold cnt at this; omega
    go_enter Try.func30, Try.ntmps30
    go_wp2_with fail
    refine (rname_ok s _ hs).mono ?_
    rintro e wn ⟨rfl, bn⟩
    rw [hna]
    have HBn : Hid (Below w.heap.size w wn) := bn
    have yn := (bn.cell (p := ⟨q, 0, none⟩) hlq).trans y0
    clear bn
    go_wp2_with fail
    rw [← m1]
    clear m1 m0 hm
    try clear m2
    go_loopw [8, 34] (fun al iv wr => ∃ (k sm : Nat), k ≤ N ∧ iv = .int .i64 (k : Int) ∧ al = .int .i64 (sm : Int) ∧ sm ≤ 200000000000000 ∧ Hid (sm = nn + rtot (y.fs.take k)) ∧ Hid (Below w.heap.size w wr)) (fun _ iv _ => N - (intOf iv).toNat)
    case atStart => exact ⟨0, nn, Nat.zero_le _, rfl, rfl, by omega, (show nn = nn + rtot (y.fs.take 0) by simp [rtot]), HBn.out⟩
    case round =>
      obtain ⟨k, sm, hk, rfl, rfl, hsm, HSM, HB⟩ := hrel
      by_cases hlt : k < N
      · have dk : (k : Int) < (N : Int) := by omega
        have hkl : k < y.fs.length := by rw [HN.out]; exact hlt
        obtain ⟨x, hx⟩ : ∃ x, x = y.fs[k] := ⟨_, rfl⟩
        obtain ⟨b, off, rfl, hbl, hcell⟩ := (HH.out.row.sl.step HB.out).at k x (by rw [hx]; exact List.getElem?_eq_getElem hkl)
        have HCL : Hid (∀ j v, [Value.string ⟨x.nm.toArray⟩, .slice x.ba x.bs.length x.bc, .slice x.ka x.ks.length x.kc][j]? = some v → wr.cell? ⟨b, off + k * 3 + j, none⟩ = some v) := hcell
        have hkx : x.ks.length ≤ 65536 := by
          have h1 := rtot_out (List.getElem_mem hkl)
          rw [← hx] at h1
          have h2 := HH.out.room
          omega
        have hst := rtot_take y.fs k hkl
        rw [← hx] at hst
        have hle := rtot_le_take y.fs (k + 1)
        have hrm := HH.out.room
        have hsum : sm + x.ks.length ≤ 200000000000000 := by have := HSM.out; omega
        have HST : Hid (sm + x.ks.length = nn + rtot (y.fs.take (k + 1))) := (show sm + x.ks.length = nn + rtot (y.fs.take (k + 1)) by have := HSM.out; omega)
        have HB1 : Hid (Below w.heap.size w (wr.alloc (.cells #[.string ⟨x.nm.toArray⟩, .slice x.ba x.bs.length x.bc, .slice x.ka x.ks.length x.kc] 94))) := HB.out.trans (((Below.refl wr.heap.size wr).alloc (Nat.le_refl _) _).mono HB.out.size)
        clear hcell hx hst hle hrm
        go_wp2_with (refine wpList_load_mid rfl 94 _ rfl b (off + k * 3) (by rfl) _ _ HCL.out Try.underlying94 rfl infoF3 ?_)
        go_roundw
        case rel => exact ⟨k + 1, sm + x.ks.length, by omega, by simp, by push_cast; rfl, hsum, HST.out, HB1.out⟩
        case measure => simp [intOf]; omega
      · obtain rfl : k = N := by omega
        have HSM2 : Hid (sm = nn + rtot y.fs) := (show sm = nn + rtot y.fs by have := HSM.out; rw [← HN.out, List.take_length] at this; exact this)
        clear HSM
        have yk := (HB.out.cell (p := ⟨q, 0, none⟩) hlq).trans y0
        go_wp2_with fail
        refine (rfind_ok wr B q _ y (HH.out.step HB.out) s).mono ?_
        rintro e wf ⟨rfl, bf⟩
        rw [HIX.out]
        have HBf : Hid (Below w.heap.size w wf) := HB.out.trans (bf.mono HB.out.size)
        have DF := HH.out.step HBf.out
        have g0 := DF.va.cell 0 (v := .slice fa k fc) (by rw [← HN.out]; rfl)
        have g1 := DF.va.cell 1 (v := .int .i64 (y.room : Int)) rfl
        have g2 := DF.va.cell 2 (v := .bool y.off) rfl
        clear bf yk DF
        have dle : (sm : Int) ≤ (y.room : Int) := by have := HSM2.out; have := HFIT.out; omega
        rw [hof] at g2
        have dN : (k : Int) < 64 := by omega
        go_upto_region 20 with fail
        have HVB0 : Hid (VA (wf.alloc (.cells #[.string s, .slice none 0 0, .slice none 0 0] 94)) wf.heap.size [.string s, .slice none 0 0, .slice none 0 0] 94) := va_new wf [.string s, .slice none 0 0, .slice none 0 0] _
        have HBb : Hid (Below w.heap.size w (wf.alloc (.cells #[.string s, .slice none 0 0, .slice none 0 0] 94))) := HBf.out.trans (((Below.refl wf.heap.size wf).alloc (Nat.le_refl _) _).mono HBf.out.size)
        have HSZ : Hid (w.heap.size ≤ wf.heap.size) := HBf.out.size
        generalize hgb : wf.alloc (.cells #[.string s, .slice none 0 0, .slice none 0 0] 94) = wb at *
        clear hgb
        have HVB : Hid (VA wb wf.heap.size x0.cells 94) := (by show VA _ _ _ _; have h1 := HVB0.out; rw [HX0.out]; show VA wb wf.heap.size [.string ⟨s.data.toList.toArray⟩, .slice none 0 0, .slice none 0 0] _; rw [bytes_back]; exact h1)
        have HB3 : Hid (Below w.heap.size w wb) := HBb.out
        clear g0 g1 g2
        go_upto_region 22 with fail
        try simp only [Act.put, List.setIfInBounds_toArray, List.set_cons_zero, List.set_cons_succ]
        have hq3 : wf.heap.size < wb.heap.size := HVB.out.lt
        have HSW : Hid (w.heap.size ≤ wb.heap.size) := HB3.out.size
        have HB4 : Hid (Below wb.heap.size wb (wb.alloc (.cells #[] 5))) := (Below.refl _ _).alloc (Nat.le_refl _) _
        have HO4 : Hid (OwnB (wb.alloc (.cells #[] 5)) wb.heap.size (.slice (some ⟨wb.heap.size, 0, none⟩) 0 0) []) := pk.own_made wb
        have HBS4 : Hid (Bs (wb.alloc (.cells #[] 5)) (.slice x0.ba x0.bs.length x0.bc) x0.bs) := (HRF0.out.step HB3.out).b.step HB4.out
        have q1 := (HB4.out.cell (p := ⟨wf.heap.size, 1, none⟩) hq3).trans (HVB.out.cell 1 (v := .slice x0.ba x0.bs.length x0.bc) rfl)
        have hpl2 : plen ≤ 2097152 := by have h1 := HFIT.out; have h2 := HNN.out; unfold cnt at h2; omega
        have hxl : x0.bs.length ≤ 2097152 := by have := HRF0.out.len; omega
        go_upto_region 23 with (at_builtin; refine appB rfl _ _ rfl wb.heap.size [] x0.bs _ _ (by rfl) (by rfl) HO4.out HBS4.out (by simp) (by simp only [List.length_nil]; omega) ?_; intro v5 w5 o5 b5; have HO5 : Hid (OwnB w5 wb.heap.size v5 ([] ++ x0.bs)) := o5; have HB5 : Hid (Below wb.heap.size wb w5) := HB4.out.trans b5; clear o5 b5)
        have HP5 : Hid (Bs w5 (.slice pa plen pc) bs) := (HPB.out.step HB3.out).step HB5.out
        clear q1
        go_upto_region 24 with (at_builtin; refine appB rfl _ _ rfl wb.heap.size ([] ++ x0.bs) bs _ _ (by rfl) (by rfl) HO5.out HP5.out HB5.out.size (by have := HPL.out; simp only [List.nil_append]; omega) ?_; intro v6 w6 o6 b6; have HO6 : Hid (OwnB w6 wb.heap.size v6 ([] ++ x0.bs ++ bs)) := o6; have HB6 : Hid (Below wb.heap.size wb w6) := HB5.out.trans b6; obtain ⟨_, a6, c6, hv6, _⟩ := o6.bs; generalize hl6 : ([] ++ x0.bs ++ bs).length = L6 at hv6; subst hv6; have HL6 : Hid (L6 = x0.bs.length + plen) := (show L6 = x0.bs.length + plen by rw [← hl6]; have := HPL.out; simp [this]); clear o6 b6 hl6)
        go_wp2_with fail
        go_loopw [13] (fun bv wr => ∃ (j L : Nat) (sa : Option Addr) (sc : Nat), bv = .slice sa L sc ∧ L ≤ 140737488355328 ∧ Hid (L = x0.bs.length + plen + j) ∧ Hid (plen + j ≤ 32 * nn) ∧ Hid (OwnB wr wb.heap.size (.slice sa L sc) (x0.bs ++ bs ++ List.replicate j 0)) ∧ Hid (Below wb.heap.size wb wr)) (fun bv _ => 32 * nn + x0.bs.length - lenOf bv)
        case atStart => exact ⟨0, L6, a6, c6, rfl, (by have := HL6.out; omega), (show L6 = _ by have := HL6.out; omega), (show plen + 0 ≤ 32 * nn by have := HNN.out; unfold cnt at this; omega), (by show OwnB _ _ _ _; simpa using HO6.out), HB6.out⟩
        case round =>
          obtain ⟨j, L, sa, sc, rfl, hLb, HLL, HLJ, HOJ, HBJ⟩ := hrel
          have HXL := HRF0.out.len
          have HLM : Hid ((0 < (L : Int) % 32) ↔ plen + j < 32 * nn) := (show (0 < (L : Int) % 32) ↔ plen + j < 32 * nn by have h1 := HLL.out; have h2 := HLJ.out; have h3 := HNN.out; unfold cnt at h3; omega)
          clear HXL
          by_cases hmd : 0 < (L : Int) % 32
          · have HSTP : Hid (plen + (j + 1) ≤ 32 * nn) := (show plen + (j + 1) ≤ 32 * nn by have := HLM.out.1 hmd; omega)
            have HLN : Hid ((x0.bs ++ bs ++ List.replicate j 0).length = L) := (by show _ = L; have h1 := HLL.out; have h2 := HPL.out; simp only [List.length_append, List.length_replicate]; omega)
            have hLl : L + 1 ≤ 140737488355328 := by have h1 := HLL.out; have h2 := HSTP.out; have h3 := HFIT.out; omega
            go_wp2_with (at_builtin; refine appB1 rfl _ _ rfl wb.heap.size (x0.bs ++ bs ++ List.replicate j 0) _ 0 0 (by rfl) (by rfl) rfl (by omega) HOJ.out HBJ.out.size (by rw [HLN.out]; exact hLl) ?_; intro v8 w8 o8 b8; have HO8 : Hid (OwnB w8 wb.heap.size v8 (x0.bs ++ bs ++ List.replicate j 0 ++ [0])) := o8; have HB8 : Hid (Below wb.heap.size wb w8) := HBJ.out.trans b8; obtain ⟨_, a8, c8, hv8, _⟩ := o8.bs; generalize hl8 : (x0.bs ++ bs ++ List.replicate j 0 ++ [0]).length = L8 at hv8; subst hv8; have HL8 : Hid (L8 = L + 1) := (show L8 = L + 1 by rw [← hl8, List.length_append, HLN.out]; rfl); clear o8 b8 hl8)
            go_roundw
            case rel => exact ⟨j + 1, L8, a8, c8, rfl, (by have := HL8.out; omega), (show L8 = _ by have := HL8.out; have := HLL.out; omega), HSTP.out, (by show OwnB _ _ _ _; have := HO8.out; rw [List.append_assoc (x0.bs ++ bs), ← List.replicate_succ'] at this; exact this), HB8.out⟩
            case measure => simp [lenOf]; have := HL8.out; have := HLL.out; have := HSTP.out; omega
          · have HPD : Hid (x0.bs ++ bs ++ List.replicate j 0 = x0.bs ++ pdd bs) := (show x0.bs ++ bs ++ List.replicate j 0 = x0.bs ++ pdd bs by rw [List.append_assoc]; unfold pdd; have h1 := HPL.out; have h2 := HNN.out; have h3 := HLJ.out; have h4 := HLM.out; rw [h1, ← h2, show 32 * nn - plen = j by omega])
            have HO9 : Hid (OwnB wr wb.heap.size (.slice sa L sc) (x0.bs ++ pdd bs)) := (by show OwnB _ _ _ _; rw [← HPD.out]; exact HOJ.out)
            have HLN9 : Hid ((x0.bs ++ pdd bs).length = L) := (by show _ = L; rw [← HPD.out]; have h1 := HLL.out; have h2 := HPL.out; simp only [List.length_append, List.length_replicate]; omega)
            have HLN8 : Hid ((x0.bs ++ pdd bs).length = 32 * (x0.ks ++ List.replicate nn false).length) := (by show _ = _; rw [HLN9.out, List.length_append, List.length_replicate]; have h1 := HLL.out; have h2 := HRF0.out.len; have h3 := HLJ.out; have h4 := HLM.out; omega)
            clear HPD HOJ
            go_upto_region 26 with fail
            have HBR : Hid (Below w.heap.size w wr) := HB3.out.trans (HBJ.out.mono HSW.out)
            have hqr : wf.heap.size < wr.heap.size := Nat.lt_of_lt_of_le hq3 HBJ.out.size
            have HBK : Hid (Below wr.heap.size wr (wr.alloc (.cells #[] 4))) := (Below.refl _ _).alloc (Nat.le_refl _) _
            have HOK : Hid (Own KB (wr.alloc (.cells #[] 4)) wr.heap.size (.slice (some ⟨wr.heap.size, 0, none⟩) 0 0) []) := own_made KB wr
            have HSK : Hid (Sl KB (wr.alloc (.cells #[] 4)) (.slice x0.ka x0.ks.length x0.kc) x0.ks) := (HRF0.out.step (HBR.out.trans (HBK.out.mono HBR.out.size))).k.sl
            have HNO : Hid (∀ n c, (.slice x0.ka x0.ks.length x0.kc : Value) = .slice none n c → c = 0) := (show ∀ n c, (.slice x0.ka x0.ks.length x0.kc : Value) = .slice none n c → c = 0 from fun n c e => by have h1 := HRF0.out.no; injection e with e1 e2 e3; rw [← e3]; exact h1 e1)
            have q2 := (HBK.out.cell (p := ⟨wf.heap.size, 2, none⟩) hqr).trans ((HBJ.out.cell (p := ⟨wf.heap.size, 2, none⟩) hq3).trans (HVB.out.cell 2 (v := .slice x0.ka x0.ks.length x0.kc) rfl))
            have hnk : nn ≤ 65536 := by have := HFIT.out; omega
            have HPUT : Hid (∀ (wd : World) (ad : Option Addr) (Ld cd : Nat), Below wr.heap.size wr wd → Own KB wd wr.heap.size (.slice ad Ld cd) ([] ++ x0.ks ++ List.replicate nn false) → ([] ++ x0.ks ++ List.replicate nn false).length = Ld → Calls Try.prog 57 #[.pointer (some ⟨q, 0, none⟩), .agg #[.string s, .slice sa L sc, .slice ad Ld cd]] wd fun r w' => (∃ v, r = .returned v) ∧ ∃ f' : RF, f'.nm = s.data.toList ∧ f'.bs = x0.bs ++ pdd bs ∧ f'.ks = x0.ks ++ List.replicate nn false ∧ RLp wd w' B q { y with fs := putL f' false y.fs }) := (by
              intro wd ad Ld cd hbd hod hld
              rw [List.nil_append] at hod hld
              have ho := HOUT.out
              have hcn := HH.out.cnt
              have hbw : Below w.heap.size w wd := HBR.out.trans (hbd.mono HBR.out.size)
              refine put_app w wd B q _ y HH.out hbw s (by rw [← HNM.out]; exact HRF0.out.nm) (x0.bs ++ pdd bs) (x0.ks ++ List.replicate nn false) sa ad L sc Ld cd wb.heap.size wr.heap.size (HO9.out.stp hbd) hod HLN9.out hld HLN8.out ?_ ?_
              · rw [List.length_append, List.length_replicate]
                have := HFIT.out
                omega
              · omega)
            clear hmd
            go_upto_region 27 with (first | (at_builtin; refine appS (K := KB) rfl _ _ rfl wr.heap.size [] x0.ks _ _ (by rfl) (by rfl) HOK.out HSK.out HNO.out (by simp) (by simp only [List.length_nil]; show (0 + x0.ks.length) * 1 ≤ _; omega) (by simp only [List.length_nil]; omega) ?_; intro va wa oa ba _; have HOa : Hid (Own KB wa wr.heap.size va ([] ++ x0.ks)) := oa; have HBa : Hid (Below wr.heap.size wr wa) := HBK.out.trans ba; clear oa ba) | (go_at_call 58; refine (flags_ok nn hnk false _).mono ?_; rintro e wc ⟨⟨vc, rfl, hNc⟩, bc'⟩; have HNc : Hid (∃ g, vc = .slice (some ⟨g, 0, none⟩) nn nn ∧ Sl KB wc vc (List.replicate nn false)) := (by show ∃ g, _; obtain ⟨g, e1, _, e3, _⟩ := hNc.in (by rw [List.length_replicate]; omega); rw [List.length_replicate] at e1; exact ⟨g, e1, e3.sl⟩); have HOc : Hid (Own KB wc wr.heap.size va ([] ++ x0.ks)) := HOa.out.step bc'; have HBc : Hid (Below wr.heap.size wr wc) := HBa.out.trans (bc'.mono HBa.out.size); clear hNc bc'; obtain ⟨gc, rfl, hSc⟩ := HNc.out; have HSc : Hid (Sl KB wc (.slice (some ⟨gc, 0, none⟩) nn nn) (List.replicate nn false)) := hSc; clear hSc HNc) | (at_builtin; refine appS (K := KB) rfl _ _ rfl wr.heap.size ([] ++ x0.ks) (List.replicate nn false) _ _ (by rfl) (by rfl) HOc.out HSc.out (fun n c e => by cases e) HBc.out.size (by rw [List.length_replicate]; simp only [List.nil_append]; show (x0.ks.length + nn) * 1 ≤ _; omega) (by rw [List.length_replicate]; simp only [List.nil_append]; omega) ?_; intro vd wd od bd _; have HOd : Hid (Own KB wd wr.heap.size vd ([] ++ x0.ks ++ List.replicate nn false)) := od; have HBd : Hid (Below wr.heap.size wr wd) := HBc.out.trans bd; obtain ⟨ad, cd, hvd, _⟩ := od.form; generalize hld : ([] ++ x0.ks ++ List.replicate nn false).length = Ld at hvd; subst hvd; have HLd : Hid (([] ++ x0.ks ++ List.replicate nn false).length = Ld) := hld; clear od bd hld) | (go_at_call 57; refine (HPUT.out wd ad Ld cd HBd.out HOd.out HLd.out).mono ?_; rintro e wp ⟨⟨vp, rfl⟩, f', ef1, ef2, ef3, hRL⟩; have HRL : Hid (RLp w wp B q { y with fs := putL f' false y.fs }) := hRL.back (HBR.out.trans (HBd.out.mono HBR.out.size)); have HE1 : Hid (f'.nm = s.data.toList) := ef1; have HE2 : Hid (f'.bs = x0.bs ++ pdd bs) := ef2; have HE3 : Hid (f'.ks = x0.ks ++ List.replicate nn false) := ef3; clear ef1 ef2 ef3 hRL))
            obtain ⟨⟨fv2, hD2⟩, kr2, bl2⟩ := HRL.out.lv HH.out
            have HD2 : Hid (RD wp B q fv2 { y with fs := putL f' false y.fs }) := hD2
            have HKR2 : Hid (KeR w wp) := kr2
            have HBL2 : Hid (Below B w wp) := bl2
            have HFS : Hid (ra (putL f' false y.fs) = putA (s.data.toList, pdd bs, List.replicate (cnt plen) false) false (ra y.fs)) := (by show _ = _; rw [ra_put, HE1.out, HE2.out, HE3.out, HNN.out, HX0.out]; rfl)
            clear hD2 kr2 bl2
            go_wp2_with fail
            refine (goes_ok wp B q _ _ HD2.out hof ho har).mono ?_
            rintro e wg ⟨rfl, hD, hkr, hbl⟩
            have HD : Hid (RD wg B q fv2 (rbeg { y with fs := putL f' false y.fs })) := hD
            have HKR : Hid (KeR w wg) := HKR2.out.trans hkr
            have HBL : Hid (Below B w wg) := HBL2.out.trans hbl
            have V := hD.va
            have HV : Hid (VA wg q ((rbeg { y with fs := putL f' false y.fs }).cells fv2) 66) := V
            have z5 := V.cell 5 (v := .int .i64 y.last) rfl
            have f5 := V.free 5
            clear hD V hkr hbl
            by_cases hg : (rbeg y).off = true
            · rw [show (rbeg { y with fs := putL f' false y.fs }).off = true from hg]
              have HG := (show Hid ((rbeg y).off = true) from hg)
              clear hg
              go_wp2_with fail
              go_ret
              have h5 := HD.out.head (y' := { rbeg { y with fs := putL f' false y.fs } with last := 0 }) (upd_set wg q 5 (.int .i64 0)) (HV.out.set 5 (.int .i64 0)) rfl rfl
              obtain ⟨y5, h6, h7⟩ : ∃ y5, rs y5 = appR (rs y) (s.data.toList, pdd bs, List.replicate (cnt plen) false) ∧ RLv w (wg.setCell ⟨q, 5, none⟩ (.int .i64 0)) B q y5 := by
                refine ⟨{ rbeg { y with fs := putL f' false y.fs } with last := 0 }, ?_, ⟨_, h5.1⟩, HKR.out.trans h5.2.1, HBL.out.trans h5.2.2⟩
                show ({ rs (rbeg y) with fs := ra (putL f' false y.fs), last := 0 } : RS) = _
                unfold appR
                rw [HFS.out, show (begS (rs y)).off = _ from HG.out]
                rfl
              first | exact ⟨y5, by rw [HG.out]; rfl, h6, h7⟩ | exact ⟨by rw [HG.out]; rfl, y5, h6, h7⟩
            · have hg2 : (rbeg y).off = false := by simpa using hg
              rw [show (rbeg { y with fs := putL f' false y.fs }).off = false from hg2]
              have HG := (show Hid ((rbeg y).off = false) from hg2)
              clear hg hg2
              go_wp2_with fail
              go_ret
              obtain ⟨y5, h6, h7⟩ : ∃ y5, rs y5 = appR (rs y) (s.data.toList, pdd bs, List.replicate (cnt plen) false) ∧ RLv w wg B q y5 := by
                refine ⟨rbeg { y with fs := putL f' false y.fs }, ?_, ⟨_, HD.out⟩, HKR.out, HBL.out⟩
                show ({ rs (rbeg y) with fs := ra (putL f' false y.fs) } : RS) = _
                unfold appR
                rw [HFS.out, show (begS (rs y)).off = _ from HG.out]
                rfl
              first | exact ⟨y5, by rw [HG.out]; rfl, h6, h7⟩ | exact ⟨by rw [HG.out]; rfl, y5, h6, h7⟩
  · have m0 : 0 < (plen : Int) % 32 := by omega
    have m1 : ((nn : Nat) : Int) = (plen : Int) / 32 + 1 := by have := HNN.out; unfold cnt at this; omega
    have m2 : (plen : Int) / 32 + 1 ≤ 140737488355328 := by omega
    go_enter Try.func30, Try.ntmps30
    go_wp2_with fail
    refine (rname_ok s _ hs).mono ?_
    rintro e wn ⟨rfl, bn⟩
    rw [hna]
    have HBn : Hid (Below w.heap.size w wn) := bn
    have yn := (bn.cell (p := ⟨q, 0, none⟩) hlq).trans y0
    clear bn
    go_wp2_with fail
    rw [← m1]
    clear m1 m0 hm
    try clear m2
    go_loopw [8, 34] (fun al iv wr => ∃ (k sm : Nat), k ≤ N ∧ iv = .int .i64 (k : Int) ∧ al = .int .i64 (sm : Int) ∧ sm ≤ 200000000000000 ∧ Hid (sm = nn + rtot (y.fs.take k)) ∧ Hid (Below w.heap.size w wr)) (fun _ iv _ => N - (intOf iv).toNat)
    case atStart => exact ⟨0, nn, Nat.zero_le _, rfl, rfl, by omega, (show nn = nn + rtot (y.fs.take 0) by simp [rtot]), HBn.out⟩
    case round =>
      obtain ⟨k, sm, hk, rfl, rfl, hsm, HSM, HB⟩ := hrel
      by_cases hlt : k < N
      · have dk : (k : Int) < (N : Int) := by omega
        have hkl : k < y.fs.length := by rw [HN.out]; exact hlt
        obtain ⟨x, hx⟩ : ∃ x, x = y.fs[k] := ⟨_, rfl⟩
        obtain ⟨b, off, rfl, hbl, hcell⟩ := (HH.out.row.sl.step HB.out).at k x (by rw [hx]; exact List.getElem?_eq_getElem hkl)
        have HCL : Hid (∀ j v, [Value.string ⟨x.nm.toArray⟩, .slice x.ba x.bs.length x.bc, .slice x.ka x.ks.length x.kc][j]? = some v → wr.cell? ⟨b, off + k * 3 + j, none⟩ = some v) := hcell
        have hkx : x.ks.length ≤ 65536 := by
          have h1 := rtot_out (List.getElem_mem hkl)
          rw [← hx] at h1
          have h2 := HH.out.room
          omega
        have hst := rtot_take y.fs k hkl
        rw [← hx] at hst
        have hle := rtot_le_take y.fs (k + 1)
        have hrm := HH.out.room
        have hsum : sm + x.ks.length ≤ 200000000000000 := by have := HSM.out; omega
        have HST : Hid (sm + x.ks.length = nn + rtot (y.fs.take (k + 1))) := (show sm + x.ks.length = nn + rtot (y.fs.take (k + 1)) by have := HSM.out; omega)
        have HB1 : Hid (Below w.heap.size w (wr.alloc (.cells #[.string ⟨x.nm.toArray⟩, .slice x.ba x.bs.length x.bc, .slice x.ka x.ks.length x.kc] 94))) := HB.out.trans (((Below.refl wr.heap.size wr).alloc (Nat.le_refl _) _).mono HB.out.size)
        clear hcell hx hst hle hrm
        go_wp2_with (refine wpList_load_mid rfl 94 _ rfl b (off + k * 3) (by rfl) _ _ HCL.out Try.underlying94 rfl infoF3 ?_)
        go_roundw
        case rel => exact ⟨k + 1, sm + x.ks.length, by omega, by simp, by push_cast; rfl, hsum, HST.out, HB1.out⟩
        case measure => simp [intOf]; omega
      · obtain rfl : k = N := by omega
        have HSM2 : Hid (sm = nn + rtot y.fs) := (show sm = nn + rtot y.fs by have := HSM.out; rw [← HN.out, List.take_length] at this; exact this)
        clear HSM
        have yk := (HB.out.cell (p := ⟨q, 0, none⟩) hlq).trans y0
        go_wp2_with fail
        refine (rfind_ok wr B q _ y (HH.out.step HB.out) s).mono ?_
        rintro e wf ⟨rfl, bf⟩
        rw [HIX.out]
        have HBf : Hid (Below w.heap.size w wf) := HB.out.trans (bf.mono HB.out.size)
        have DF := HH.out.step HBf.out
        have g0 := DF.va.cell 0 (v := .slice fa k fc) (by rw [← HN.out]; rfl)
        have g1 := DF.va.cell 1 (v := .int .i64 (y.room : Int)) rfl
        have g2 := DF.va.cell 2 (v := .bool y.off) rfl
        clear bf yk DF
        have dle : (sm : Int) ≤ (y.room : Int) := by have := HSM2.out; have := HFIT.out; omega
        rw [hof] at g2
        have dN : (k : Int) < 64 := by omega
        go_upto_region 20 with fail
        have HVB0 : Hid (VA (wf.alloc (.cells #[.string s, .slice none 0 0, .slice none 0 0] 94)) wf.heap.size [.string s, .slice none 0 0, .slice none 0 0] 94) := va_new wf [.string s, .slice none 0 0, .slice none 0 0] _
        have HBb : Hid (Below w.heap.size w (wf.alloc (.cells #[.string s, .slice none 0 0, .slice none 0 0] 94))) := HBf.out.trans (((Below.refl wf.heap.size wf).alloc (Nat.le_refl _) _).mono HBf.out.size)
        have HSZ : Hid (w.heap.size ≤ wf.heap.size) := HBf.out.size
        generalize hgb : wf.alloc (.cells #[.string s, .slice none 0 0, .slice none 0 0] 94) = wb at *
        clear hgb
        have HVB : Hid (VA wb wf.heap.size x0.cells 94) := (by show VA _ _ _ _; have h1 := HVB0.out; rw [HX0.out]; show VA wb wf.heap.size [.string ⟨s.data.toList.toArray⟩, .slice none 0 0, .slice none 0 0] _; rw [bytes_back]; exact h1)
        have HB3 : Hid (Below w.heap.size w wb) := HBb.out
        clear g0 g1 g2
        go_upto_region 22 with fail
        try simp only [Act.put, List.setIfInBounds_toArray, List.set_cons_zero, List.set_cons_succ]
        have hq3 : wf.heap.size < wb.heap.size := HVB.out.lt
        have HSW : Hid (w.heap.size ≤ wb.heap.size) := HB3.out.size
        have HB4 : Hid (Below wb.heap.size wb (wb.alloc (.cells #[] 5))) := (Below.refl _ _).alloc (Nat.le_refl _) _
        have HO4 : Hid (OwnB (wb.alloc (.cells #[] 5)) wb.heap.size (.slice (some ⟨wb.heap.size, 0, none⟩) 0 0) []) := pk.own_made wb
        have HBS4 : Hid (Bs (wb.alloc (.cells #[] 5)) (.slice x0.ba x0.bs.length x0.bc) x0.bs) := (HRF0.out.step HB3.out).b.step HB4.out
        have q1 := (HB4.out.cell (p := ⟨wf.heap.size, 1, none⟩) hq3).trans (HVB.out.cell 1 (v := .slice x0.ba x0.bs.length x0.bc) rfl)
        have hpl2 : plen ≤ 2097152 := by have h1 := HFIT.out; have h2 := HNN.out; unfold cnt at h2; omega
        have hxl : x0.bs.length ≤ 2097152 := by have := HRF0.out.len; omega
        go_upto_region 23 with (at_builtin; refine appB rfl _ _ rfl wb.heap.size [] x0.bs _ _ (by rfl) (by rfl) HO4.out HBS4.out (by simp) (by simp only [List.length_nil]; omega) ?_; intro v5 w5 o5 b5; have HO5 : Hid (OwnB w5 wb.heap.size v5 ([] ++ x0.bs)) := o5; have HB5 : Hid (Below wb.heap.size wb w5) := HB4.out.trans b5; clear o5 b5)
        have HP5 : Hid (Bs w5 (.slice pa plen pc) bs) := (HPB.out.step HB3.out).step HB5.out
        clear q1
        go_upto_region 24 with (at_builtin; refine appB rfl _ _ rfl wb.heap.size ([] ++ x0.bs) bs _ _ (by rfl) (by rfl) HO5.out HP5.out HB5.out.size (by have := HPL.out; simp only [List.nil_append]; omega) ?_; intro v6 w6 o6 b6; have HO6 : Hid (OwnB w6 wb.heap.size v6 ([] ++ x0.bs ++ bs)) := o6; have HB6 : Hid (Below wb.heap.size wb w6) := HB5.out.trans b6; obtain ⟨_, a6, c6, hv6, _⟩ := o6.bs; generalize hl6 : ([] ++ x0.bs ++ bs).length = L6 at hv6; subst hv6; have HL6 : Hid (L6 = x0.bs.length + plen) := (show L6 = x0.bs.length + plen by rw [← hl6]; have := HPL.out; simp [this]); clear o6 b6 hl6)
        go_wp2_with fail
        go_loopw [13] (fun bv wr => ∃ (j L : Nat) (sa : Option Addr) (sc : Nat), bv = .slice sa L sc ∧ L ≤ 140737488355328 ∧ Hid (L = x0.bs.length + plen + j) ∧ Hid (plen + j ≤ 32 * nn) ∧ Hid (OwnB wr wb.heap.size (.slice sa L sc) (x0.bs ++ bs ++ List.replicate j 0)) ∧ Hid (Below wb.heap.size wb wr)) (fun bv _ => 32 * nn + x0.bs.length - lenOf bv)
        case atStart => exact ⟨0, L6, a6, c6, rfl, (by have := HL6.out; omega), (show L6 = _ by have := HL6.out; omega), (show plen + 0 ≤ 32 * nn by have := HNN.out; unfold cnt at this; omega), (by show OwnB _ _ _ _; simpa using HO6.out), HB6.out⟩
        case round =>
          obtain ⟨j, L, sa, sc, rfl, hLb, HLL, HLJ, HOJ, HBJ⟩ := hrel
          have HXL := HRF0.out.len
          have HLM : Hid ((0 < (L : Int) % 32) ↔ plen + j < 32 * nn) := (show (0 < (L : Int) % 32) ↔ plen + j < 32 * nn by have h1 := HLL.out; have h2 := HLJ.out; have h3 := HNN.out; unfold cnt at h3; omega)
          clear HXL
          by_cases hmd : 0 < (L : Int) % 32
          · have HSTP : Hid (plen + (j + 1) ≤ 32 * nn) := (show plen + (j + 1) ≤ 32 * nn by have := HLM.out.1 hmd; omega)
            have HLN : Hid ((x0.bs ++ bs ++ List.replicate j 0).length = L) := (by show _ = L; have h1 := HLL.out; have h2 := HPL.out; simp only [List.length_append, List.length_replicate]; omega)
            have hLl : L + 1 ≤ 140737488355328 := by have h1 := HLL.out; have h2 := HSTP.out; have h3 := HFIT.out; omega
            go_wp2_with (at_builtin; refine appB1 rfl _ _ rfl wb.heap.size (x0.bs ++ bs ++ List.replicate j 0) _ 0 0 (by rfl) (by rfl) rfl (by omega) HOJ.out HBJ.out.size (by rw [HLN.out]; exact hLl) ?_; intro v8 w8 o8 b8; have HO8 : Hid (OwnB w8 wb.heap.size v8 (x0.bs ++ bs ++ List.replicate j 0 ++ [0])) := o8; have HB8 : Hid (Below wb.heap.size wb w8) := HBJ.out.trans b8; obtain ⟨_, a8, c8, hv8, _⟩ := o8.bs; generalize hl8 : (x0.bs ++ bs ++ List.replicate j 0 ++ [0]).length = L8 at hv8; subst hv8; have HL8 : Hid (L8 = L + 1) := (show L8 = L + 1 by rw [← hl8, List.length_append, HLN.out]; rfl); clear o8 b8 hl8)
            go_roundw
            case rel => exact ⟨j + 1, L8, a8, c8, rfl, (by have := HL8.out; omega), (show L8 = _ by have := HL8.out; have := HLL.out; omega), HSTP.out, (by show OwnB _ _ _ _; have := HO8.out; rw [List.append_assoc (x0.bs ++ bs), ← List.replicate_succ'] at this; exact this), HB8.out⟩
            case measure => simp [lenOf]; have := HL8.out; have := HLL.out; have := HSTP.out; omega
          · have HPD : Hid (x0.bs ++ bs ++ List.replicate j 0 = x0.bs ++ pdd bs) := (show x0.bs ++ bs ++ List.replicate j 0 = x0.bs ++ pdd bs by rw [List.append_assoc]; unfold pdd; have h1 := HPL.out; have h2 := HNN.out; have h3 := HLJ.out; have h4 := HLM.out; rw [h1, ← h2, show 32 * nn - plen = j by omega])
            have HO9 : Hid (OwnB wr wb.heap.size (.slice sa L sc) (x0.bs ++ pdd bs)) := (by show OwnB _ _ _ _; rw [← HPD.out]; exact HOJ.out)
            have HLN9 : Hid ((x0.bs ++ pdd bs).length = L) := (by show _ = L; rw [← HPD.out]; have h1 := HLL.out; have h2 := HPL.out; simp only [List.length_append, List.length_replicate]; omega)
            have HLN8 : Hid ((x0.bs ++ pdd bs).length = 32 * (x0.ks ++ List.replicate nn false).length) := (by show _ = _; rw [HLN9.out, List.length_append, List.length_replicate]; have h1 := HLL.out; have h2 := HRF0.out.len; have h3 := HLJ.out; have h4 := HLM.out; omega)
            clear HPD HOJ
            go_upto_region 26 with fail
            have HBR : Hid (Below w.heap.size w wr) := HB3.out.trans (HBJ.out.mono HSW.out)
            have hqr : wf.heap.size < wr.heap.size := Nat.lt_of_lt_of_le hq3 HBJ.out.size
            have HBK : Hid (Below wr.heap.size wr (wr.alloc (.cells #[] 4))) := (Below.refl _ _).alloc (Nat.le_refl _) _
            have HOK : Hid (Own KB (wr.alloc (.cells #[] 4)) wr.heap.size (.slice (some ⟨wr.heap.size, 0, none⟩) 0 0) []) := own_made KB wr
            have HSK : Hid (Sl KB (wr.alloc (.cells #[] 4)) (.slice x0.ka x0.ks.length x0.kc) x0.ks) := (HRF0.out.step (HBR.out.trans (HBK.out.mono HBR.out.size))).k.sl
            have HNO : Hid (∀ n c, (.slice x0.ka x0.ks.length x0.kc : Value) = .slice none n c → c = 0) := (show ∀ n c, (.slice x0.ka x0.ks.length x0.kc : Value) = .slice none n c → c = 0 from fun n c e => by have h1 := HRF0.out.no; injection e with e1 e2 e3; rw [← e3]; exact h1 e1)
            have q2 := (HBK.out.cell (p := ⟨wf.heap.size, 2, none⟩) hqr).trans ((HBJ.out.cell (p := ⟨wf.heap.size, 2, none⟩) hq3).trans (HVB.out.cell 2 (v := .slice x0.ka x0.ks.length x0.kc) rfl))
            have hnk : nn ≤ 65536 := by have := HFIT.out; omega
            have HPUT : Hid (∀ (wd : World) (ad : Option Addr) (Ld cd : Nat), Below wr.heap.size wr wd → Own KB wd wr.heap.size (.slice ad Ld cd) ([] ++ x0.ks ++ List.replicate nn false) → ([] ++ x0.ks ++ List.replicate nn false).length = Ld → Calls Try.prog 57 #[.pointer (some ⟨q, 0, none⟩), .agg #[.string s, .slice sa L sc, .slice ad Ld cd]] wd fun r w' => (∃ v, r = .returned v) ∧ ∃ f' : RF, f'.nm = s.data.toList ∧ f'.bs = x0.bs ++ pdd bs ∧ f'.ks = x0.ks ++ List.replicate nn false ∧ RLp wd w' B q { y with fs := putL f' false y.fs }) := (by
              intro wd ad Ld cd hbd hod hld
              rw [List.nil_append] at hod hld
              have ho := HOUT.out
              have hcn := HH.out.cnt
              have hbw : Below w.heap.size w wd := HBR.out.trans (hbd.mono HBR.out.size)
              refine put_app w wd B q _ y HH.out hbw s (by rw [← HNM.out]; exact HRF0.out.nm) (x0.bs ++ pdd bs) (x0.ks ++ List.replicate nn false) sa ad L sc Ld cd wb.heap.size wr.heap.size (HO9.out.stp hbd) hod HLN9.out hld HLN8.out ?_ ?_
              · rw [List.length_append, List.length_replicate]
                have := HFIT.out
                omega
              · omega)
            clear hmd
            go_upto_region 27 with (first | (at_builtin; refine appS (K := KB) rfl _ _ rfl wr.heap.size [] x0.ks _ _ (by rfl) (by rfl) HOK.out HSK.out HNO.out (by simp) (by simp only [List.length_nil]; show (0 + x0.ks.length) * 1 ≤ _; omega) (by simp only [List.length_nil]; omega) ?_; intro va wa oa ba _; have HOa : Hid (Own KB wa wr.heap.size va ([] ++ x0.ks)) := oa; have HBa : Hid (Below wr.heap.size wr wa) := HBK.out.trans ba; clear oa ba) | (go_at_call 58; refine (flags_ok nn hnk false _).mono ?_; rintro e wc ⟨⟨vc, rfl, hNc⟩, bc'⟩; have HNc : Hid (∃ g, vc = .slice (some ⟨g, 0, none⟩) nn nn ∧ Sl KB wc vc (List.replicate nn false)) := (by show ∃ g, _; obtain ⟨g, e1, _, e3, _⟩ := hNc.in (by rw [List.length_replicate]; omega); rw [List.length_replicate] at e1; exact ⟨g, e1, e3.sl⟩); have HOc : Hid (Own KB wc wr.heap.size va ([] ++ x0.ks)) := HOa.out.step bc'; have HBc : Hid (Below wr.heap.size wr wc) := HBa.out.trans (bc'.mono HBa.out.size); clear hNc bc'; obtain ⟨gc, rfl, hSc⟩ := HNc.out; have HSc : Hid (Sl KB wc (.slice (some ⟨gc, 0, none⟩) nn nn) (List.replicate nn false)) := hSc; clear hSc HNc) | (at_builtin; refine appS (K := KB) rfl _ _ rfl wr.heap.size ([] ++ x0.ks) (List.replicate nn false) _ _ (by rfl) (by rfl) HOc.out HSc.out (fun n c e => by cases e) HBc.out.size (by rw [List.length_replicate]; simp only [List.nil_append]; show (x0.ks.length + nn) * 1 ≤ _; omega) (by rw [List.length_replicate]; simp only [List.nil_append]; omega) ?_; intro vd wd od bd _; have HOd : Hid (Own KB wd wr.heap.size vd ([] ++ x0.ks ++ List.replicate nn false)) := od; have HBd : Hid (Below wr.heap.size wr wd) := HBc.out.trans bd; obtain ⟨ad, cd, hvd, _⟩ := od.form; generalize hld : ([] ++ x0.ks ++ List.replicate nn false).length = Ld at hvd; subst hvd; have HLd : Hid (([] ++ x0.ks ++ List.replicate nn false).length = Ld) := hld; clear od bd hld) | (go_at_call 57; refine (HPUT.out wd ad Ld cd HBd.out HOd.out HLd.out).mono ?_; rintro e wp ⟨⟨vp, rfl⟩, f', ef1, ef2, ef3, hRL⟩; have HRL : Hid (RLp w wp B q { y with fs := putL f' false y.fs }) := hRL.back (HBR.out.trans (HBd.out.mono HBR.out.size)); have HE1 : Hid (f'.nm = s.data.toList) := ef1; have HE2 : Hid (f'.bs = x0.bs ++ pdd bs) := ef2; have HE3 : Hid (f'.ks = x0.ks ++ List.replicate nn false) := ef3; clear ef1 ef2 ef3 hRL))
            obtain ⟨⟨fv2, hD2⟩, kr2, bl2⟩ := HRL.out.lv HH.out
            have HD2 : Hid (RD wp B q fv2 { y with fs := putL f' false y.fs }) := hD2
            have HKR2 : Hid (KeR w wp) := kr2
            have HBL2 : Hid (Below B w wp) := bl2
            have HFS : Hid (ra (putL f' false y.fs) = putA (s.data.toList, pdd bs, List.replicate (cnt plen) false) false (ra y.fs)) := (by show _ = _; rw [ra_put, HE1.out, HE2.out, HE3.out, HNN.out, HX0.out]; rfl)
            clear hD2 kr2 bl2
            go_wp2_with fail
            refine (goes_ok wp B q _ _ HD2.out hof ho har).mono ?_
            rintro e wg ⟨rfl, hD, hkr, hbl⟩
            have HD : Hid (RD wg B q fv2 (rbeg { y with fs := putL f' false y.fs })) := hD
            have HKR : Hid (KeR w wg) := HKR2.out.trans hkr
            have HBL : Hid (Below B w wg) := HBL2.out.trans hbl
            have V := hD.va
            have HV : Hid (VA wg q ((rbeg { y with fs := putL f' false y.fs }).cells fv2) 66) := V
            have z5 := V.cell 5 (v := .int .i64 y.last) rfl
            have f5 := V.free 5
            clear hD V hkr hbl
            by_cases hg : (rbeg y).off = true
            · rw [show (rbeg { y with fs := putL f' false y.fs }).off = true from hg]
              have HG := (show Hid ((rbeg y).off = true) from hg)
              clear hg
              go_wp2_with fail
              go_ret
              have h5 := HD.out.head (y' := { rbeg { y with fs := putL f' false y.fs } with last := 0 }) (upd_set wg q 5 (.int .i64 0)) (HV.out.set 5 (.int .i64 0)) rfl rfl
              obtain ⟨y5, h6, h7⟩ : ∃ y5, rs y5 = appR (rs y) (s.data.toList, pdd bs, List.replicate (cnt plen) false) ∧ RLv w (wg.setCell ⟨q, 5, none⟩ (.int .i64 0)) B q y5 := by
                refine ⟨{ rbeg { y with fs := putL f' false y.fs } with last := 0 }, ?_, ⟨_, h5.1⟩, HKR.out.trans h5.2.1, HBL.out.trans h5.2.2⟩
                show ({ rs (rbeg y) with fs := ra (putL f' false y.fs), last := 0 } : RS) = _
                unfold appR
                rw [HFS.out, show (begS (rs y)).off = _ from HG.out]
                rfl
              first | exact ⟨y5, by rw [HG.out]; rfl, h6, h7⟩ | exact ⟨by rw [HG.out]; rfl, y5, h6, h7⟩
            · have hg2 : (rbeg y).off = false := by simpa using hg
              rw [show (rbeg { y with fs := putL f' false y.fs }).off = false from hg2]
              have HG := (show Hid ((rbeg y).off = false) from hg2)
              clear hg hg2
              go_wp2_with fail
              go_ret
              obtain ⟨y5, h6, h7⟩ : ∃ y5, rs y5 = appR (rs y) (s.data.toList, pdd bs, List.replicate (cnt plen) false) ∧ RLv w wg B q y5 := by
                refine ⟨rbeg { y with fs := putL f' false y.fs }, ?_, ⟨_, HD.out⟩, HKR.out, HBL.out⟩
                show ({ rs (rbeg y) with fs := ra (putL f' false y.fs) } : RS) = _
                unfold appR
                rw [HFS.out, show (begS (rs y)).off = _ from HG.out]
                rfl
              first | exact ⟨y5, by rw [HG.out]; rfl, h6, h7⟩ | exact ⟨by rw [HG.out]; rfl, y5, h6, h7⟩
end Go.Proofs.Ytakgkpiicigihaa
/- disk LI: the document's Append, whatever is asked. -/
namespace Go.Proofs.Ytakgkpiicigihaa
open Go.RowKit Go.Maps Go.Sort Go.Shelf pk
set_option linter.unusedVariables false
set_option linter.unusedSimpArgs false

set_option maxRecDepth 100000 in
theorem rappend_bad (w : World) (B q : Nat) (fv : Value) (y : RK) (h : RD w B q fv y) (s : ByteArray) (hs : s.size ≤ 9223372036854775807) (v : Value) (hna : isNm s.data.toList = false) :
    Calls Try.prog 30 #[ptr q, .string s, v] w fun r w' => ∃ y', r = .returned (.int .i64 1) ∧ rs y' = rs y ∧ RLv w w' B q y' := by
  have HH := (show Hid _ from h)
  clear h
  go_enter Try.func30, Try.ntmps30
  go_wp2_with fail
  refine (rname_ok s _ hs).mono ?_
  rintro e wn ⟨rfl, bn⟩
  rw [hna]
  have HBn : Hid (Below w.heap.size w wn) := bn
  clear bn
  go_wp2_with fail
  go_ret
  first | exact ⟨y, rfl, rfl, RLv.same HH.out HBn.out⟩ | exact ⟨rfl, y, rfl, RLv.same HH.out HBn.out⟩
theorem appR_off {x : RS} {t : T3} (h : (begS x).off = true) : ({ ({ begS x with fs := putA t false x.fs } : RS) with last := 0 } : RS) = appR x t := by
  unfold appR
  rw [h]
  rfl
theorem appR_on {x : RS} {t : T3} (h : ¬ (begS x).off = true) : ({ begS x with fs := putA t false x.fs } : RS) = appR x t := by
  unfold appR
  rw [if_neg h]
  rfl
theorem DocAppend_any (w : World) (B q : Nat) (fv : Value) (y : RK) (h : RD w B q fv y) (s : ByteArray) (hs : s.size ≤ 9223372036854775807) (v : Value) (bs : List Nat) (hb : Bs w v bs) (hl : bs.length ≤ 140737488351232) (ho : y.ops ≤ 4611686018427387904) (har : y.armed ≤ 9223372036854775807) :
    Calls Try.prog 30 #[ptr q, .string s, v] w fun r w' => ∃ y', r = .returned (.int .i64 ((rapp s.data.toList bs (rs y)).1 : Nat)) ∧ rs y' = (rapp s.data.toList bs (rs y)).2 ∧ RLv w w' B q y' := by
  unfold rapp
  by_cases hna : isNm s.data.toList = false
  · rw [if_pos hna]
    exact rappend_bad w B q fv y h s hs v hna
  rw [if_neg hna]
  have hna' : isNm s.data.toList = true := by simpa using hna
  by_cases hno : cnt bs.length + rtotA (rs y).fs > (rs y).room ∨ (lkA (rs y).fs s.data.toList).isNone = true ∧ 64 ≤ (rs y).fs.length
  · rw [if_pos hno]
    exact rappend_no w B q fv y h s hs v bs hb hl hna' hno
  rw [if_neg hno]
  have hfit : cnt bs.length + rtot y.fs ≤ y.room := by
    have h1 := not_or.1 hno
    have h2 : ¬ (cnt bs.length + rtotA (ra y.fs) > y.room) := h1.1
    rw [rtot_ra] at h2
    omega
  have hcn : rix y.fs s.data.toList = none → y.fs.length < 64 := fun e => by
    have h1 := (not_or.1 hno).2
    have h2 : (lkA (rs y).fs s.data.toList).isNone = true := by
      show (lkA (ra y.fs) s.data.toList).isNone = true
      rw [lkA_none e]
      rfl
    have h3 : ¬ 64 ≤ (ra y.fs).length := fun h4 => h1 ⟨h2, h4⟩
    rw [show (ra y.fs).length = y.fs.length by simp [ra]] at h3
    omega
  by_cases hof : (rs y).off = true
  · rw [if_pos hof]
    refine rappend_off w B q fv y h s hs v bs hb hl hna' hof hfit ?_
    cases hix : rix y.fs s.data.toList with
    | none => exact .inr (hcn hix)
    | some i => left; unfold rixI; rw [hix]; exact Int.natCast_nonneg i
  rw [if_neg hof]
  have hof' : y.off = false := by
    have : ¬ y.off = true := hof
    simpa using this
  have key : ∀ t : T3, (Calls Try.prog 30 #[ptr q, .string s, v] w fun r w' => ∃ y', r = .returned (.int .i64 (appE (rbeg y).off)) ∧ rs y' = appR (rs y) t ∧ RLv w w' B q y') →
      Calls Try.prog 30 #[ptr q, .string s, v] w fun r w' => ∃ y', r = .returned (.int .i64 (((if (begS (rs y)).off = true then (18, ({ ({ begS (rs y) with fs := putA t false (rs y).fs } : RS) with last := 0 } : RS)) else (0, ({ begS (rs y) with fs := putA t false (rs y).fs } : RS))) : Nat × RS).1 : Nat)) ∧ rs y' = ((if (begS (rs y)).off = true then (18, ({ ({ begS (rs y) with fs := putA t false (rs y).fs } : RS) with last := 0 } : RS)) else (0, ({ begS (rs y) with fs := putA t false (rs y).fs } : RS))) : Nat × RS).2 ∧ RLv w w' B q y' := by
    intro t hC
    refine hC.mono ?_
    rintro r w' ⟨y', rfl, h2, h3⟩
    by_cases hg : (begS (rs y)).off = true
    · rw [if_pos hg, appR_off hg]
      refine ⟨y', ?_, h2, h3⟩
      rw [show (rbeg y).off = true from hg]
      rfl
    · rw [if_neg hg, appR_on hg]
      refine ⟨y', ?_, h2, h3⟩
      rw [show (rbeg y).off = false by have : ¬ (rbeg y).off = true := hg; simpa using this]
      rfl
  cases hix : rix y.fs s.data.toList with
  | none =>
    rw [show lkA (rs y).fs s.data.toList = none from lkA_none hix]
    exact key _ (rappend_new w B q fv y h s hs v bs hb hl hna' hof' hfit hix (hcn hix) ho har)
  | some i =>
    obtain ⟨x, hx, hxn, hlk⟩ := lkA_some hix
    rw [show lkA (rs y).fs s.data.toList = some (x.nm, x.bs, x.ks) from hlk]
    exact key _ (rappend_old w B q fv y h s hs v bs hb hl hna' hof' hfit i hix x hx ho har)
end Go.Proofs.Ytakgkpiicigihaa
/- disk LII: the document's Arm, Read. -/
namespace Go.Proofs.Ytakgkpiicigihaa
open Go.RowKit Go.Maps Go.Sort Go.Shelf pk
set_option linter.unusedVariables false
set_option linter.unusedSimpArgs false

set_option maxRecDepth 100000 in
theorem DocArm_neg (w : World) (v : Value) (n : Int) (hn : n < 0) (hn2 : -9223372036854775808 ≤ n) :
    Calls Try.prog 36 #[v, .int .i64 n] w fun r w' => r = .returned (.int .i64 1) ∧ w' = w := by
  go_enter Try.func36, Try.ntmps36
  go_wp2_with fail
  go_ret
  exact ⟨rfl, rfl⟩
set_option maxRecDepth 100000 in
theorem DocArm_off (w : World) (B q : Nat) (fv : Value) (y : RK) (h : RD w B q fv y) (n : Nat) (hn : n ≤ 9223372036854775807) (hof : y.off = true) :
    Calls Try.prog 36 #[ptr q, .int .i64 (n : Int)] w fun r w' => r = .returned (.int .i64 18) ∧ w' = w := by
  have y2 := h.va.cell 2 (v := .bool y.off) rfl
  rw [hof] at y2
  have d0 : (0 : Int) ≤ (n : Int) := by omega
  clear h
  have hp : (ptr q) = .pointer (some ⟨q, 0, none⟩) := rfl
  rw [hp]
  go_enter Try.func36, Try.ntmps36
  go_wp2_with fail
  go_ret
  exact ⟨rfl, rfl⟩
set_option maxRecDepth 100000 in
theorem DocArm_on (w : World) (B q : Nat) (fv : Value) (y : RK) (h : RD w B q fv y) (n : Nat) (hn : n ≤ 9223372036854775807) (hof : y.off = false) :
    Calls Try.prog 36 #[ptr q, .int .i64 (n : Int)] w fun r w' => r = .returned (.int .i64 0) ∧ RLv w w' B q { y with armed := n } := by
  have y2 := h.va.cell 2 (v := .bool y.off) rfl
  have y3 := h.va.cell 3 (v := .int .i64 y.armed) rfl
  have f3 := h.va.free 3
  rw [hof] at y2
  have d0 : (0 : Int) ≤ (n : Int) := by omega
  have HH : Hid (RD w B q fv y) := h
  clear h
  have hp : (ptr q) = .pointer (some ⟨q, 0, none⟩) := rfl
  rw [hp]
  go_enter Try.func36, Try.ntmps36
  go_wp2_with fail
  go_ret
  have h5 := HH.out.head (y' := { y with armed := n }) (upd_set w q 3 (.int .i64 (n : Int))) (HH.out.va.set 3 (.int .i64 (n : Int))) rfl rfl
  exact ⟨rfl, ⟨_, h5.1⟩, h5.2.1, h5.2.2⟩
set_option maxRecDepth 100000 in
theorem DocRead_bad (w : World) (v : Value) (s : ByteArray) (hs : s.size ≤ 9223372036854775807) (hna : isNm s.data.toList = false) :
    Calls Try.prog 38 #[v, .string s] w fun r w' => r = .returned (.tuple #[.slice none 0 0, .int .i64 0, .int .i64 1]) ∧ Below w.heap.size w w' := by
  go_enter Try.func38, Try.ntmps38
  go_wp2_with fail
  refine (rname_ok s _ hs).mono ?_
  rintro e wn ⟨rfl, bn⟩
  rw [hna]
  have HBn : Hid (Below w.heap.size w wn) := bn
  clear bn
  go_wp2_with fail
  go_ret3
  exact ⟨rfl, HBn.out⟩
set_option maxRecDepth 100000 in
theorem DocRead_none (w : World) (B q : Nat) (fv : Value) (y : RK) (h : RD w B q fv y) (s : ByteArray) (hs : s.size ≤ 9223372036854775807) (hna : isNm s.data.toList = true) (hi : rix y.fs s.data.toList = none) :
    Calls Try.prog 38 #[ptr q, .string s] w fun r w' => r = .returned (.tuple #[.slice none 0 0, .int .i64 0, .int .i64 7]) ∧ Below w.heap.size w w' := by
  have HH : Hid (RD w B q fv y) := h
  have HIX : Hid (rixI y.fs s.data.toList = (-1 : Int)) := (show rixI y.fs s.data.toList = (-1 : Int) by unfold rixI; rw [hi])
  clear h hi
  have hp : (ptr q) = .pointer (some ⟨q, 0, none⟩) := rfl
  rw [hp]
  go_enter Try.func38, Try.ntmps38
  go_wp2_with fail
  refine (rname_ok s _ hs).mono ?_
  rintro e wn ⟨rfl, bn⟩
  rw [hna]
  have HBn : Hid (Below w.heap.size w wn) := bn
  clear bn
  go_wp2_with fail
  refine (rfind_ok wn B q _ y (HH.out.step HBn.out) s).mono ?_
  rintro e wf ⟨rfl, bf⟩
  rw [HIX.out]
  have HBf : Hid (Below w.heap.size w wf) := HBn.out.trans (bf.mono HBn.out.size)
  clear bf
  go_wp2_with fail
  go_ret3
  exact ⟨rfl, HBf.out⟩
set_option maxRecDepth 100000 in
theorem DocRead_off (w : World) (B q : Nat) (fv : Value) (y : RK) (h : RD w B q fv y) (s : ByteArray) (hs : s.size ≤ 9223372036854775807) (hna : isNm s.data.toList = true) (i : Nat) (hi : rix y.fs s.data.toList = some i) (hof : y.off = true) :
    Calls Try.prog 38 #[ptr q, .string s] w fun r w' => r = .returned (.tuple #[.slice none 0 0, .int .i64 0, .int .i64 18]) ∧ Below w.heap.size w w' := by
  have HH : Hid (RD w B q fv y) := h
  have HIX : Hid (rixI y.fs s.data.toList = (i : Int)) := (show rixI y.fs s.data.toList = (i : Int) by unfold rixI; rw [hi])
  clear h hi
  have hp : (ptr q) = .pointer (some ⟨q, 0, none⟩) := rfl
  rw [hp]
  go_enter Try.func38, Try.ntmps38
  go_wp2_with fail
  refine (rname_ok s _ hs).mono ?_
  rintro e wn ⟨rfl, bn⟩
  rw [hna]
  have HBn : Hid (Below w.heap.size w wn) := bn
  clear bn
  go_wp2_with fail
  refine (rfind_ok wn B q _ y (HH.out.step HBn.out) s).mono ?_
  rintro e wf ⟨rfl, bf⟩
  rw [HIX.out]
  have HBf : Hid (Below w.heap.size w wf) := HBn.out.trans (bf.mono HBn.out.size)
  have y2 := (HH.out.step HBf.out).va.cell 2 (v := .bool y.off) rfl
  rw [hof] at y2
  clear bf
  go_wp2_with fail
  go_ret3
  exact ⟨rfl, HBf.out⟩
end Go.Proofs.Ytakgkpiicigihaa
/- disk LIII: the document's Read of a file that is there. -/
namespace Go.Proofs.Ytakgkpiicigihaa
open Go.RowKit Go.Maps Go.Sort Go.Shelf pk
set_option linter.unusedVariables false
set_option linter.unusedSimpArgs false

set_option maxRecDepth 100000 in
set_option maxHeartbeats 2000000 in
theorem DocRead_yes (w : World) (B q : Nat) (fv : Value) (y : RK) (h : RD w B q fv y) (s : ByteArray) (hs : s.size ≤ 9223372036854775807) (hna : isNm s.data.toList = true) (i : Nat) (hi : rix y.fs s.data.toList = some i) (x : RF) (hx : y.fs[i]? = some x) (hof : y.off = false) :
    Calls Try.prog 38 #[ptr q, .string s] w fun r w' => r = .returned (.tuple #[x.bv, .int .i64 (x.ks.length : Int), .int .i64 0]) ∧ Below w.heap.size w w' := by
  obtain ⟨fa, fc, hfv, hc1, hc2⟩ := h.row.form
  subst hfv
  have HH := (show Hid _ from h)
  have HIX : Hid (rixI y.fs s.data.toList = (i : Int)) := (show rixI y.fs s.data.toList = (i : Int) by unfold rixI; rw [hi])
  obtain ⟨hil, hin⟩ := rix_at hi
  have hmem : x ∈ y.fs := List.mem_of_getElem? hx
  have hkx : x.ks.length ≤ 65536 := by have := rtot_out hmem; have := h.room; omega
  obtain ⟨b, off, ha, hbl, hcell⟩ := h.row.sl.at i x hx
  subst ha
  have HCL0 : Hid (∀ j v, [Value.string ⟨x.nm.toArray⟩, .slice x.ba x.bs.length x.bc, .slice x.ka x.ks.length x.kc][j]? = some v → w.cell? ⟨b, off + i * 3 + j, none⟩ = some v) := hcell
  have hcnt := h.cnt
  have hlq := h.va.lt
  have y0 := h.va.cell 0 (v := .slice (some ⟨b, off, none⟩) y.fs.length fc) rfl
  have d1 : (i : Int) < (y.fs.length : Int) := by omega
  clear h hi hin hil hx hmem hcell
  generalize hN : y.fs.length = N at *
  clear hN
  have hp : (ptr q) = .pointer (some ⟨q, 0, none⟩) := rfl
  rw [hp]
  go_enter Try.func38, Try.ntmps38
  go_wp2_with fail
  refine (rname_ok s _ hs).mono ?_
  rintro e wn ⟨rfl, bn⟩
  rw [hna]
  have HBn : Hid (Below w.heap.size w wn) := bn
  clear bn
  go_wp2_with fail
  refine (rfind_ok wn B q _ y (HH.out.step HBn.out) s).mono ?_
  rintro e wf ⟨rfl, bf⟩
  rw [HIX.out]
  have HBf : Hid (Below w.heap.size w wf) := HBn.out.trans (bf.mono HBn.out.size)
  have y2 := (HH.out.step HBf.out).va.cell 2 (v := .bool y.off) rfl
  rw [hof] at y2
  have yf := (HBf.out.cell (p := ⟨q, 0, none⟩) hlq).trans y0
  clear bf
  go_upto_region 7 with fail
  have hlf : q < wf.heap.size := Nat.lt_of_lt_of_le hlq HBf.out.size
  have hbf : b < wf.heap.size := Nat.lt_of_lt_of_le hbl HBf.out.size
  have HCF : Hid (∀ j v, [.string ⟨x.nm.toArray⟩, .slice x.ba x.bs.length x.bc, .slice x.ka x.ks.length x.kc][j]? = some v → wf.cell? ⟨b, off + i * 3 + j, none⟩ = some v) := fun j v hj => (HBf.out.cell (p := ⟨b, off + i * 3 + j, none⟩) hbl).trans (HCL0.out j v hj)
  refine wp_region_noPanic ?_
  refine wp_region_held_drew (S := fun V => Below wf.heap.size wf V) (by kernel_rfl) (Below.refl _ _).drew ?_
  intro hHeld
  have bW0 : Below wf.heap.size wf wf.drew := (Below.refl _ _).drew
  generalize wf.drew = W0 at *
  refine takeD 0 26 (.pointer (some ⟨q, 0, none⟩)) (by exact rfl) rfl (by kernel_rfl) (by kernel_rfl) (by kernel_rfl) (fun _ _ _ h => h) (Or.inl ⟨by rfl, ?_⟩) (by assumption) ?_
  · intro wq hS
    go_simp
  try simp only [Act.put, List.setIfInBounds_toArray, List.set_cons_zero, List.set_cons_succ]
  refine takeD 1 27 (.pointer (some ⟨q, 0, none⟩)) (by exact rfl) rfl (by kernel_rfl) (by kernel_rfl) (by kernel_rfl) (fun _ _ _ h => h) (Or.inl ⟨by rfl, ?_⟩) (by assumption) ?_
  · intro wq hS
    go_simp
  try simp only [Act.put, List.setIfInBounds_toArray, List.set_cons_zero, List.set_cons_succ]
  refine takeD 2 28 (.pointer (some ⟨q, 0, none⟩)) (by exact rfl) rfl (by kernel_rfl) (by kernel_rfl) (by kernel_rfl) (fun _ _ _ h => h) (Or.inl ⟨by rfl, ?_⟩) (by assumption) ?_
  · intro wq hS
    go_simp
  try simp only [Act.put, List.setIfInBounds_toArray, List.set_cons_zero, List.set_cons_succ]
  refine takeD 3 29 (.slice (some ⟨b, off, none⟩) N fc) (by exact rfl) rfl (by kernel_rfl) (by kernel_rfl) (by kernel_rfl) (fun _ _ _ h => h) (Or.inl ⟨by rfl, ?_⟩) (by assumption) ?_
  · intro wq hS
    have c := (hS.cell (p := ⟨q, 0, none⟩) hlf).trans yf
    go_simp
  try simp only [Act.put, List.setIfInBounds_toArray, List.set_cons_zero, List.set_cons_succ]
  refine takeD 4 30 (.pointer (some ⟨q, 0, none⟩)) (by exact rfl) rfl (by kernel_rfl) (by kernel_rfl) (by kernel_rfl) (fun _ _ _ h => h) (Or.inl ⟨by rfl, ?_⟩) (by assumption) ?_
  · intro wq hS
    go_simp
  try simp only [Act.put, List.setIfInBounds_toArray, List.set_cons_zero, List.set_cons_succ]
  refine takeD 5 31 (.string s) (by exact rfl) rfl (by kernel_rfl) (by kernel_rfl) (by kernel_rfl) (fun _ _ _ h => h) (Or.inl ⟨by rfl, ?_⟩) (by assumption) ?_
  · intro wq hS
    go_simp
  try simp only [Act.put, List.setIfInBounds_toArray, List.set_cons_zero, List.set_cons_succ]
  refine wpAnyH_ready (rs := [6, 9]) (by kernel_rfl) (by simp) ?_
  refine AllReadyH.cons (by exact rfl) (fun K hK => ?_) (AllReadyH.cons (by exact rfl) (fun K hK => ?_) AllReadyH.nil)
  · go_simp
    refine (rfind_ok W0 B q _ y (HH.out.step (HBf.out.trans (bW0.mono HBf.out.size))) s).mono ?_
    rintro e W1 ⟨rfl, cW1⟩
    rw [HIX.out]
    have bW1 : Below wf.heap.size wf W1 := bW0.trans (cW1.mono bW0.size)
    go_wp2_with fail
    refine hK.out _ _ bW1 (fun hHeldW1 => ?_)
    clear hK K
    try simp only [Act.put, List.setIfInBounds_toArray, List.set_cons_zero, List.set_cons_succ]
    refine takeD 7 33 (.pointer (some ⟨b, off + i * 3, none⟩)) (by exact rfl) rfl (by kernel_rfl) (by kernel_rfl) (by kernel_rfl) (fun _ _ _ h => h) (Or.inl ⟨by rfl, ?_⟩) (by assumption) ?_
    · intro wq hS
      go_simp
    try simp only [Act.put, List.setIfInBounds_toArray, List.set_cons_zero, List.set_cons_succ]
    refine takeD 8 34 (.agg #[.string ⟨x.nm.toArray⟩, .slice x.ba x.bs.length x.bc, .slice x.ka x.ks.length x.kc]) (by exact rfl) rfl (by kernel_rfl) (by kernel_rfl) (by kernel_rfl) (fun _ _ _ h => h) (yieldsIf_load_mid (by rfl) _ _ rfl _ _ rfl [.string ⟨x.nm.toArray⟩, .slice x.ba x.bs.length x.bc, .slice x.ka x.ks.length x.kc] _ (fun wq hS => (fun j u hj => (hS.cell (p := ⟨b, off + i * 3 + j, none⟩) hbf).trans (HCF.out j u hj))) Try.underlying94 rfl infoF3) (by assumption) ?_
    try simp only [Act.put, List.setIfInBounds_toArray, List.set_cons_zero, List.set_cons_succ]
    refine wpAnyH_ready (rs := [9]) (by kernel_rfl) (by simp) ?_
    refine AllReadyH.cons (by exact rfl) (fun K hK => ?_) AllReadyH.nil
    go_simp
    have bW2 := bW1.alloc bW1.size (.cells #[.string ByteArray.empty, .slice none 0 0, .slice none 0 0] 94)
    have VW2 := va_new W1 [.string ByteArray.empty, .slice none 0 0, .slice none 0 0] 94
    have l1 : wf.heap.size ≤ W1.heap.size := bW1.size
    refine hK.out _ _ bW2 (fun hHeldW2 => ?_)
    clear hK K
    try simp only [Act.put, List.setIfInBounds_toArray, List.set_cons_zero, List.set_cons_succ]
    change wpAnyH _ _ _ _ _ _ _ _ (W1.alloc (.cells ([.string ByteArray.empty, .slice none 0 0, .slice none 0 0] : List Value).toArray 94))
    generalize W1.alloc (.cells ([.string ByteArray.empty, .slice none 0 0, .slice none 0 0] : List Value).toArray 94) = W2 at *
    generalize W1.heap.size = gb at *
    refine wpAnyH_ready (rs := [10]) (by kernel_rfl) (by simp) ?_
    refine AllReadyH.cons (by exact rfl) (fun K hK => ?_) AllReadyH.nil
    refine stAn (by rfl) rfl 94 _ _ rfl gb (by rfl) [.string ByteArray.empty, .slice none 0 0, .slice none 0 0] [.string ⟨x.nm.toArray⟩, .slice x.ba x.bs.length x.bc, .slice x.ka x.ks.length x.kc] (by rfl) 94 VW2 infoF3 rfl (by simp [Value.oneCell']) ?_
    intro w8 V8 u8
    have b8 : Below wf.heap.size wf w8 := u8.bel bW2 l1
    refine hK.out _ _ b8 (fun hHeld8 => ?_)
    clear hK K
    refine wpAnyH_done (by kernel_rfl) ?_ _
    refine NoPanic.normal ?_
    have p1 := V8.cell 1 (v := .slice x.ba x.bs.length x.bc) rfl
    have p2 := V8.cell 2 (v := .slice x.ka x.ks.length x.kc) rfl
    have HFIN : Hid (Below w.heap.size w w8) := HBf.out.trans (b8.mono HBf.out.size)
    clear V8 u8 b8 hHeld8

    go_wp2_with fail
    go_quiet (fail)
    go_wp2_with fail
    refine bodyPost_ret (v := .tuple #[.slice x.ba x.bs.length x.bc, .int .i64 (x.ks.length : Int), .int .i64 0]) (by simp [results, Try.results38, go_sem]) rfl ?_
    exact ⟨rfl, bel_drewN HFIN.out _⟩
  · go_simp
    have bW1 := bW0.alloc bW0.size (.cells #[.string ByteArray.empty, .slice none 0 0, .slice none 0 0] 94)
    have VW1 := va_new W0 [.string ByteArray.empty, .slice none 0 0, .slice none 0 0] 94
    have l1 : wf.heap.size ≤ W0.heap.size := bW0.size
    refine hK.out _ _ bW1 (fun hHeldW1 => ?_)
    clear hK K
    try simp only [Act.put, List.setIfInBounds_toArray, List.set_cons_zero, List.set_cons_succ]
    change wpAnyH _ _ _ _ _ _ _ _ (W0.alloc (.cells ([.string ByteArray.empty, .slice none 0 0, .slice none 0 0] : List Value).toArray 94))
    generalize W0.alloc (.cells ([.string ByteArray.empty, .slice none 0 0, .slice none 0 0] : List Value).toArray 94) = W1 at *
    generalize W0.heap.size = gb at *
    refine wpAnyH_ready (rs := [6]) (by kernel_rfl) (by simp) ?_
    refine AllReadyH.cons (by exact rfl) (fun K hK => ?_) AllReadyH.nil
    go_simp
    refine (rfind_ok W1 B q _ y (HH.out.step (HBf.out.trans (bW1.mono HBf.out.size))) s).mono ?_
    rintro e W2 ⟨rfl, cW2⟩
    rw [HIX.out]
    have bW2 : Below wf.heap.size wf W2 := bW1.trans (cW2.mono bW1.size)
    go_wp2_with fail
    refine hK.out _ _ bW2 (fun hHeldW2 => ?_)
    clear hK K
    try simp only [Act.put, List.setIfInBounds_toArray, List.set_cons_zero, List.set_cons_succ]
    have VW2 := VW1.step cW2
    refine takeD 7 33 (.pointer (some ⟨b, off + i * 3, none⟩)) (by exact rfl) rfl (by kernel_rfl) (by kernel_rfl) (by kernel_rfl) (fun _ _ _ h => h) (Or.inl ⟨by rfl, ?_⟩) (by assumption) ?_
    · intro wq hS
      go_simp
    try simp only [Act.put, List.setIfInBounds_toArray, List.set_cons_zero, List.set_cons_succ]
    refine takeD 8 34 (.agg #[.string ⟨x.nm.toArray⟩, .slice x.ba x.bs.length x.bc, .slice x.ka x.ks.length x.kc]) (by exact rfl) rfl (by kernel_rfl) (by kernel_rfl) (by kernel_rfl) (fun _ _ _ h => h) (yieldsIf_load_mid (by rfl) _ _ rfl _ _ rfl [.string ⟨x.nm.toArray⟩, .slice x.ba x.bs.length x.bc, .slice x.ka x.ks.length x.kc] _ (fun wq hS => (fun j u hj => (hS.cell (p := ⟨b, off + i * 3 + j, none⟩) hbf).trans (HCF.out j u hj))) Try.underlying94 rfl infoF3) (by assumption) ?_
    try simp only [Act.put, List.setIfInBounds_toArray, List.set_cons_zero, List.set_cons_succ]
    refine wpAnyH_ready (rs := [10]) (by kernel_rfl) (by simp) ?_
    refine AllReadyH.cons (by exact rfl) (fun K hK => ?_) AllReadyH.nil
    refine stAn (by rfl) rfl 94 _ _ rfl gb (by rfl) [.string ByteArray.empty, .slice none 0 0, .slice none 0 0] [.string ⟨x.nm.toArray⟩, .slice x.ba x.bs.length x.bc, .slice x.ka x.ks.length x.kc] (by rfl) 94 VW2 infoF3 rfl (by simp [Value.oneCell']) ?_
    intro w8 V8 u8
    have b8 : Below wf.heap.size wf w8 := u8.bel bW2 l1
    refine hK.out _ _ b8 (fun hHeld8 => ?_)
    clear hK K
    refine wpAnyH_done (by kernel_rfl) ?_ _
    refine NoPanic.normal ?_
    have p1 := V8.cell 1 (v := .slice x.ba x.bs.length x.bc) rfl
    have p2 := V8.cell 2 (v := .slice x.ka x.ks.length x.kc) rfl
    have HFIN : Hid (Below w.heap.size w w8) := HBf.out.trans (b8.mono HBf.out.size)
    clear V8 u8 b8 hHeld8

    go_wp2_with fail
    go_quiet (fail)
    go_wp2_with fail
    refine bodyPost_ret (v := .tuple #[.slice x.ba x.bs.length x.bc, .int .i64 (x.ks.length : Int), .int .i64 0]) (by simp [results, Try.results38, go_sem]) rfl ?_
    exact ⟨rfl, bel_drewN HFIN.out _⟩
end Go.Proofs.Ytakgkpiicigihaa
