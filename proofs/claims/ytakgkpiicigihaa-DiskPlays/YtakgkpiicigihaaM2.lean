/- disk XLVI: before the document's Append: how many sectors there are; bytes made whole. -/
import Derived.Test.YtakgkpiicigihaaDmg
namespace Go.Proofs.Ytakgkpiicigihaa
open Go.RowKit Go.Maps Go.Sort Go.Shelf pk
set_option linter.unusedVariables false

theorem pk.OwnB.safex {w : World} {B : Nat} {v : Value} {bs : List Nat} (h : OwnB w B v bs) : SafeX w v := fun b off n c e => by
  rcases h.own.2 with ⟨rfl, _⟩ | ⟨q, cap, cur, rfl, _, hq, _⟩
  · cases e
  · cases e
    exact ⟨_, _, _, hq, by unfold Dt; decide, by unfold Rt; decide⟩
theorem Own.safexB {w : World} {B : Nat} {v : Value} {ks : List Bool} (h : Own KB w B v ks) : SafeX w v := fun b off n c e => by
  rcases h.own.2 with ⟨rfl, _⟩ | ⟨q, cap, cur, rfl, _, hq, _⟩
  · cases e
  · cases e
    exact ⟨_, _, _, hq, by unfold Dt; decide, by unfold Rt; decide⟩
theorem rtot_take (fs : List RF) (k : Nat) (h : k < fs.length) : rtot (fs.take (k + 1)) = rtot (fs.take k) + fs[k].ks.length := by
  induction fs generalizing k with
  | nil => cases h
  | cons f fs ih =>
    cases k with
    | zero => simp [rtot]
    | succ k =>
      have := ih k (by simpa using h)
      simp only [List.take_succ_cons, rtot, List.getElem_cons_succ]
      omega
theorem rtot_le_take (fs : List RF) (k : Nat) : rtot (fs.take k) ≤ rtot fs := by
  induction fs generalizing k with
  | nil => simp
  | cons f fs ih =>
    cases k with
    | zero => simp [rtot]
    | succ k => have := ih k; simp only [List.take_succ_cons, rtot]; omega
/-- bytes with noughts behind them up to whole sectors -/
def pdd (bs : List Nat) : List Nat := bs ++ List.replicate (32 * cnt bs.length - bs.length) 0
theorem pdd_len (bs : List Nat) : (pdd bs).length = 32 * cnt bs.length := by
  unfold pdd cnt
  simp
  omega
theorem flat_midr (ss : List (List Nat)) : ∀ (j : Nat) (h : j < ss.length), ((flat ss).drop (32 * j)).take 32 = pad32 ss[j] := by
  induction ss with
  | nil => intro j h; cases h
  | cons s ss ih =>
    intro j h
    cases j with
    | zero =>
      show ((pad32 s ++ flat ss).drop 0).take 32 = pad32 s
      rw [List.drop_zero, List.take_left' (pad32_len s)]
    | succ j =>
      have hj : j < ss.length := by simpa using h
      show ((pad32 s ++ flat ss).drop (32 * (j + 1))).take 32 = pad32 (ss[j]'hj)
      rw [show 32 * (j + 1) = 32 * j + (pad32 s).length by rw [pad32_len]; omega, List.drop_append, List.drop_eq_nil_of_le (by omega), Nat.add_sub_cancel, List.nil_append]
      exact ih j hj
theorem pdd_flat (bs : List Nat) : flat (parts bs) = pdd bs := by
  refine List.ext_getElem? (fun i => ?_)
  by_cases hi : i < 32 * cnt bs.length
  · have hq : i / 32 < (parts bs).length := by rw [parts_len]; omega
    have hg : (flat (parts bs))[i]? = ((flat (parts bs)).drop (32 * (i / 32)))[i % 32]? := by rw [List.getElem?_drop]; congr 1; omega
    have hmid := flat_midr (parts bs) (i / 32) hq
    have hg2 : ((flat (parts bs)).drop (32 * (i / 32)))[i % 32]? = (pad32 (parts bs)[i / 32])[i % 32]? := by
      rw [← hmid, List.getElem?_take, if_pos (by omega)]
    have hp : (parts bs)[i / 32] = part bs (i / 32) := by simp [parts]
    have hv : (pad32 (part bs (i / 32)))[i % 32]? = some (bs.getD i 0) := by
      unfold pad32 part
      rw [List.getElem?_map, List.getElem?_range (by omega)]
      simp only [Option.map_some, Option.some.injEq]
      rw [List.getD, List.getElem?_take, if_pos (by omega), List.getElem?_drop, show 32 * (i / 32) + i % 32 = i by omega]
      rfl
    rw [hg, hg2, hp, hv]
    unfold pdd
    by_cases hb : i < bs.length
    · rw [List.getElem?_append_left hb]
      simp [List.getD, hb]
    · rw [List.getElem?_append_right (by omega), List.getElem?_replicate, if_pos (by omega)]
      simp [List.getD, List.getElem?_eq_none (Nat.le_of_not_lt hb)]
  · rw [List.getElem?_eq_none (by rw [flat_len, parts_len]; omega), List.getElem?_eq_none (by rw [pdd_len]; omega)]
/-- what Append answers, and leaves -/
def rtotA : List T3 → Nat
  | [] => 0
  | t :: fs => t.2.2.length + rtotA fs
theorem rtot_ra (fs : List RF) : rtotA (ra fs) = rtot fs := by
  induction fs with
  | nil => rfl
  | cons f fs ih => show f.ks.length + rtotA (ra fs) = f.ks.length + rtot fs; rw [ih]
def rapp (l : List UInt8) (bs : List Nat) (x : RS) : Nat × RS :=
  if isNm l = false then (1, x)
  else if cnt bs.length + rtotA x.fs > x.room ∨ (lkA x.fs l).isNone = true ∧ 64 ≤ x.fs.length then (17, x)
  else if x.off then (18, x)
  else
    let t := (lkA x.fs l).getD (l, [], [])
    let z := { begS x with fs := putA (l, t.2.1 ++ pdd bs, t.2.2 ++ List.replicate (cnt bs.length) false) false x.fs }
    if z.off then (18, { z with last := 0 }) else (0, z)
end Go.Proofs.Ytakgkpiicigihaa
/- disk XLVII: the document's Append. -/
namespace Go.Proofs.Ytakgkpiicigihaa
open Go.RowKit Go.Maps Go.Sort Go.Shelf pk
set_option linter.unusedVariables false
set_option linter.unusedSimpArgs false

def lenOf : Value → Nat
  | .slice _ n _ => n
  | _ => 0
set_option maxRecDepth 100000 in
set_option maxHeartbeats 2000000 in
theorem rappend_no (w : World) (B q : Nat) (fv : Value) (y : RK) (h : RD w B q fv y) (s : ByteArray) (hs : s.size ≤ 9223372036854775807) (v : Value) (bs : List Nat) (hb : Bs w v bs) (hl : bs.length ≤ 140737488351232) (hna : isNm s.data.toList = true)
    (hno : cnt bs.length + rtotA (ra y.fs) > y.room ∨ (lkA (ra y.fs) s.data.toList).isNone = true ∧ 64 ≤ (ra y.fs).length) :
    Calls Try.prog 30 #[ptr q, .string s, v] w fun r w' => ∃ y', r = .returned (.int .i64 17) ∧ rs y' = rs y ∧ RLv w w' B q y' := by
  rw [rtot_ra, show (ra y.fs).length = y.fs.length by simp [ra]] at hno
  have HPB := (show Hid _ from hb)
  obtain ⟨hby, pa, pc, hpv, hp1, hp2, _⟩ := hb
  subst hpv
  obtain ⟨fa, fc, hfv, hc1, hc2⟩ := h.row.form
  subst hfv
  have HH := (show Hid _ from h)
  have hcnt := h.cnt
  have hroom := h.room
  have hlq := h.va.lt
  have y0 := h.va.cell 0 (v := .slice fa y.fs.length fc) rfl
  generalize hN : y.fs.length = N at *
  have HN := (show Hid _ from hN)
  generalize hPl : bs.length = plen at *
  have HPL : Hid (bs.length = plen) := hPl
  obtain ⟨nn, hnn⟩ : ∃ nn, nn = cnt plen := ⟨_, rfl⟩
  have HNN : Hid (nn = cnt plen) := hnn
  have hnb : nn ≤ 4398046511105 := by rw [hnn]; unfold cnt; omega
  have hp : (ptr q) = .pointer (some ⟨q, 0, none⟩) := rfl
  rw [hp]
  clear h hN hPl hby
  obtain ⟨ixv, hixv⟩ : ∃ ixv : Int, ixv = rixI y.fs s.data.toList := ⟨_, rfl⟩
  have HIX : Hid (rixI y.fs s.data.toList = ixv) := hixv.symm
  have hneg : (lkA (ra y.fs) s.data.toList).isNone = true → ixv < 0 := fun h1 => by
    rw [hixv]
    unfold rixI
    cases hh : rix y.fs s.data.toList with
    | none => show (-1 : Int) < 0; omega
    | some i =>
      obtain ⟨x, _, _, h2⟩ := lkA_some hh
      rw [h2] at h1
      cases h1
  have HNG : Hid ((nn + rtot y.fs > y.room) ∨ (ixv < 0 ∧ 64 ≤ N)) := (show (nn + rtot y.fs > y.room) ∨ (ixv < 0 ∧ 64 ≤ N) by
    rcases hno with h1 | h1
    · left; rw [hnn]; exact h1
    · exact .inr ⟨hneg h1.1, h1.2⟩)
  clear hno hneg hixv hnn
  by_cases hrm : nn + rtot y.fs > y.room
  · by_cases hm : plen % 32 = 0
    · have m0 : (plen : Int) % 32 = 0 := by omega
      have m1 : ((nn : Nat) : Int) = (plen : Int) / 32 := by have := HNN.out; unfold cnt at this; omega
      go_enter Try.func30, Try.ntmps30
      go_wp2_with fail
      refine (rname_ok s _ hs).mono ?_
      rintro e wn ⟨rfl, bn⟩
      rw [hna]
      have HBn : Hid (Below w.heap.size w wn) := bn
      have yn := (bn.cell (p := ⟨q, 0, none⟩) hlq).trans y0
      clear bn
      go_wp2_with fail
      rw [← m1]
      clear m1 m0 hm
      try clear m2
      go_loopw [8, 34] (fun al iv wr => ∃ (k sm : Nat), k ≤ N ∧ iv = .int .i64 (k : Int) ∧ al = .int .i64 (sm : Int) ∧ sm ≤ 200000000000000 ∧ Hid (sm = nn + rtot (y.fs.take k)) ∧ Hid (Below w.heap.size w wr)) (fun _ iv _ => N - (intOf iv).toNat)
      case atStart => exact ⟨0, nn, Nat.zero_le _, rfl, rfl, by omega, (show nn = nn + rtot (y.fs.take 0) by simp [rtot]), HBn.out⟩
      case round =>
        obtain ⟨k, sm, hk, rfl, rfl, hsm, HSM, HB⟩ := hrel
        by_cases hlt : k < N
        · have dk : (k : Int) < (N : Int) := by omega
          have hkl : k < y.fs.length := by rw [HN.out]; exact hlt
          obtain ⟨x, hx⟩ : ∃ x, x = y.fs[k] := ⟨_, rfl⟩
          obtain ⟨b, off, rfl, hbl, hcell⟩ := (HH.out.row.sl.step HB.out).at k x (by rw [hx]; exact List.getElem?_eq_getElem hkl)
          have HCL : Hid (∀ j v, [Value.string ⟨x.nm.toArray⟩, .slice x.ba x.bs.length x.bc, .slice x.ka x.ks.length x.kc][j]? = some v → wr.cell? ⟨b, off + k * 3 + j, none⟩ = some v) := hcell
          have hkx : x.ks.length ≤ 65536 := by
            have h1 := rtot_out (List.getElem_mem hkl)
            rw [← hx] at h1
            have h2 := HH.out.room
            omega
          have hst := rtot_take y.fs k hkl
          rw [← hx] at hst
          have hle := rtot_le_take y.fs (k + 1)
          have hrm := HH.out.room
          have hsum : sm + x.ks.length ≤ 200000000000000 := by have := HSM.out; omega
          have HST : Hid (sm + x.ks.length = nn + rtot (y.fs.take (k + 1))) := (show sm + x.ks.length = nn + rtot (y.fs.take (k + 1)) by have := HSM.out; omega)
          have HB1 : Hid (Below w.heap.size w (wr.alloc (.cells #[.string ⟨x.nm.toArray⟩, .slice x.ba x.bs.length x.bc, .slice x.ka x.ks.length x.kc] 94))) := HB.out.trans (((Below.refl wr.heap.size wr).alloc (Nat.le_refl _) _).mono HB.out.size)
          clear hcell hx hst hle hrm
          go_wp2_with (refine wpList_load_mid rfl 94 _ rfl b (off + k * 3) (by rfl) _ _ HCL.out Try.underlying94 rfl infoF3 ?_)
          go_roundw
          case rel => exact ⟨k + 1, sm + x.ks.length, by omega, by simp, by push_cast; rfl, hsum, HST.out, HB1.out⟩
          case measure => simp [intOf]; omega
        · obtain rfl : k = N := by omega
          have HSM2 : Hid (sm = nn + rtot y.fs) := (show sm = nn + rtot y.fs by have := HSM.out; rw [← HN.out, List.take_length] at this; exact this)
          clear HSM
          have yk := (HB.out.cell (p := ⟨q, 0, none⟩) hlq).trans y0
          go_wp2_with fail
          refine (rfind_ok wr B q _ y (HH.out.step HB.out) s).mono ?_
          rintro e wf ⟨rfl, bf⟩
          rw [HIX.out]
          have HBf : Hid (Below w.heap.size w wf) := HB.out.trans (bf.mono HB.out.size)
          have DF := HH.out.step HBf.out
          have g0 := DF.va.cell 0 (v := .slice fa k fc) (by rw [← HN.out]; rfl)
          have g1 := DF.va.cell 1 (v := .int .i64 (y.room : Int)) rfl
          have g2 := DF.va.cell 2 (v := .bool y.off) rfl
          clear bf yk DF
          have dgt : (y.room : Int) < (sm : Int) := by have := HSM2.out; omega
          go_wp2_with fail
          go_ret
          exact ⟨y, rfl, rfl, RLv.same HH.out HBf.out⟩
    · have m0 : 0 < (plen : Int) % 32 := by omega
      have m1 : ((nn : Nat) : Int) = (plen : Int) / 32 + 1 := by have := HNN.out; unfold cnt at this; omega
      have m2 : (plen : Int) / 32 + 1 ≤ 140737488355328 := by omega
      go_enter Try.func30, Try.ntmps30
      go_wp2_with fail
      refine (rname_ok s _ hs).mono ?_
      rintro e wn ⟨rfl, bn⟩
      rw [hna]
      have HBn : Hid (Below w.heap.size w wn) := bn
      have yn := (bn.cell (p := ⟨q, 0, none⟩) hlq).trans y0
      clear bn
      go_wp2_with fail
      rw [← m1]
      clear m1 m0 hm
      try clear m2
      go_loopw [8, 34] (fun al iv wr => ∃ (k sm : Nat), k ≤ N ∧ iv = .int .i64 (k : Int) ∧ al = .int .i64 (sm : Int) ∧ sm ≤ 200000000000000 ∧ Hid (sm = nn + rtot (y.fs.take k)) ∧ Hid (Below w.heap.size w wr)) (fun _ iv _ => N - (intOf iv).toNat)
      case atStart => exact ⟨0, nn, Nat.zero_le _, rfl, rfl, by omega, (show nn = nn + rtot (y.fs.take 0) by simp [rtot]), HBn.out⟩
      case round =>
        obtain ⟨k, sm, hk, rfl, rfl, hsm, HSM, HB⟩ := hrel
        by_cases hlt : k < N
        · have dk : (k : Int) < (N : Int) := by omega
          have hkl : k < y.fs.length := by rw [HN.out]; exact hlt
          obtain ⟨x, hx⟩ : ∃ x, x = y.fs[k] := ⟨_, rfl⟩
          obtain ⟨b, off, rfl, hbl, hcell⟩ := (HH.out.row.sl.step HB.out).at k x (by rw [hx]; exact List.getElem?_eq_getElem hkl)
          have HCL : Hid (∀ j v, [Value.string ⟨x.nm.toArray⟩, .slice x.ba x.bs.length x.bc, .slice x.ka x.ks.length x.kc][j]? = some v → wr.cell? ⟨b, off + k * 3 + j, none⟩ = some v) := hcell
          have hkx : x.ks.length ≤ 65536 := by
            have h1 := rtot_out (List.getElem_mem hkl)
            rw [← hx] at h1
            have h2 := HH.out.room
            omega
          have hst := rtot_take y.fs k hkl
          rw [← hx] at hst
          have hle := rtot_le_take y.fs (k + 1)
          have hrm := HH.out.room
          have hsum : sm + x.ks.length ≤ 200000000000000 := by have := HSM.out; omega
          have HST : Hid (sm + x.ks.length = nn + rtot (y.fs.take (k + 1))) := (show sm + x.ks.length = nn + rtot (y.fs.take (k + 1)) by have := HSM.out; omega)
          have HB1 : Hid (Below w.heap.size w (wr.alloc (.cells #[.string ⟨x.nm.toArray⟩, .slice x.ba x.bs.length x.bc, .slice x.ka x.ks.length x.kc] 94))) := HB.out.trans (((Below.refl wr.heap.size wr).alloc (Nat.le_refl _) _).mono HB.out.size)
          clear hcell hx hst hle hrm
          go_wp2_with (refine wpList_load_mid rfl 94 _ rfl b (off + k * 3) (by rfl) _ _ HCL.out Try.underlying94 rfl infoF3 ?_)
          go_roundw
          case rel => exact ⟨k + 1, sm + x.ks.length, by omega, by simp, by push_cast; rfl, hsum, HST.out, HB1.out⟩
          case measure => simp [intOf]; omega
        · obtain rfl : k = N := by omega
          have HSM2 : Hid (sm = nn + rtot y.fs) := (show sm = nn + rtot y.fs by have := HSM.out; rw [← HN.out, List.take_length] at this; exact this)
          clear HSM
          have yk := (HB.out.cell (p := ⟨q, 0, none⟩) hlq).trans y0
          go_wp2_with fail
          refine (rfind_ok wr B q _ y (HH.out.step HB.out) s).mono ?_
          rintro e wf ⟨rfl, bf⟩
          rw [HIX.out]
          have HBf : Hid (Below w.heap.size w wf) := HB.out.trans (bf.mono HB.out.size)
          have DF := HH.out.step HBf.out
          have g0 := DF.va.cell 0 (v := .slice fa k fc) (by rw [← HN.out]; rfl)
          have g1 := DF.va.cell 1 (v := .int .i64 (y.room : Int)) rfl
          have g2 := DF.va.cell 2 (v := .bool y.off) rfl
          clear bf yk DF
          have dgt : (y.room : Int) < (sm : Int) := by have := HSM2.out; omega
          go_wp2_with fail
          go_ret
          exact ⟨y, rfl, rfl, RLv.same HH.out HBf.out⟩
  · by_cases hm : plen % 32 = 0
    · have m0 : (plen : Int) % 32 = 0 := by omega
      have m1 : ((nn : Nat) : Int) = (plen : Int) / 32 := by have := HNN.out; unfold cnt at this; omega
      go_enter Try.func30, Try.ntmps30
      go_wp2_with fail
      refine (rname_ok s _ hs).mono ?_
      rintro e wn ⟨rfl, bn⟩
      rw [hna]
      have HBn : Hid (Below w.heap.size w wn) := bn
      have yn := (bn.cell (p := ⟨q, 0, none⟩) hlq).trans y0
      clear bn
      go_wp2_with fail
      rw [← m1]
      clear m1 m0 hm
      try clear m2
      go_loopw [8, 34] (fun al iv wr => ∃ (k sm : Nat), k ≤ N ∧ iv = .int .i64 (k : Int) ∧ al = .int .i64 (sm : Int) ∧ sm ≤ 200000000000000 ∧ Hid (sm = nn + rtot (y.fs.take k)) ∧ Hid (Below w.heap.size w wr)) (fun _ iv _ => N - (intOf iv).toNat)
      case atStart => exact ⟨0, nn, Nat.zero_le _, rfl, rfl, by omega, (show nn = nn + rtot (y.fs.take 0) by simp [rtot]), HBn.out⟩
      case round =>
        obtain ⟨k, sm, hk, rfl, rfl, hsm, HSM, HB⟩ := hrel
        by_cases hlt : k < N
        · have dk : (k : Int) < (N : Int) := by omega
          have hkl : k < y.fs.length := by rw [HN.out]; exact hlt
          obtain ⟨x, hx⟩ : ∃ x, x = y.fs[k] := ⟨_, rfl⟩
          obtain ⟨b, off, rfl, hbl, hcell⟩ := (HH.out.row.sl.step HB.out).at k x (by rw [hx]; exact List.getElem?_eq_getElem hkl)
          have HCL : Hid (∀ j v, [Value.string ⟨x.nm.toArray⟩, .slice x.ba x.bs.length x.bc, .slice x.ka x.ks.length x.kc][j]? = some v → wr.cell? ⟨b, off + k * 3 + j, none⟩ = some v) := hcell
          have hkx : x.ks.length ≤ 65536 := by
            have h1 := rtot_out (List.getElem_mem hkl)
            rw [← hx] at h1
            have h2 := HH.out.room
            omega
          have hst := rtot_take y.fs k hkl
          rw [← hx] at hst
          have hle := rtot_le_take y.fs (k + 1)
          have hrm := HH.out.room
          have hsum : sm + x.ks.length ≤ 200000000000000 := by have := HSM.out; omega
          have HST : Hid (sm + x.ks.length = nn + rtot (y.fs.take (k + 1))) := (show sm + x.ks.length = nn + rtot (y.fs.take (k + 1)) by have := HSM.out; omega)
          have HB1 : Hid (Below w.heap.size w (wr.alloc (.cells #[.string ⟨x.nm.toArray⟩, .slice x.ba x.bs.length x.bc, .slice x.ka x.ks.length x.kc] 94))) := HB.out.trans (((Below.refl wr.heap.size wr).alloc (Nat.le_refl _) _).mono HB.out.size)
          clear hcell hx hst hle hrm
          go_wp2_with (refine wpList_load_mid rfl 94 _ rfl b (off + k * 3) (by rfl) _ _ HCL.out Try.underlying94 rfl infoF3 ?_)
          go_roundw
          case rel => exact ⟨k + 1, sm + x.ks.length, by omega, by simp, by push_cast; rfl, hsum, HST.out, HB1.out⟩
          case measure => simp [intOf]; omega
        · obtain rfl : k = N := by omega
          have HSM2 : Hid (sm = nn + rtot y.fs) := (show sm = nn + rtot y.fs by have := HSM.out; rw [← HN.out, List.take_length] at this; exact this)
          clear HSM
          have yk := (HB.out.cell (p := ⟨q, 0, none⟩) hlq).trans y0
          go_wp2_with fail
          refine (rfind_ok wr B q _ y (HH.out.step HB.out) s).mono ?_
          rintro e wf ⟨rfl, bf⟩
          rw [HIX.out]
          have HBf : Hid (Below w.heap.size w wf) := HB.out.trans (bf.mono HB.out.size)
          have DF := HH.out.step HBf.out
          have g0 := DF.va.cell 0 (v := .slice fa k fc) (by rw [← HN.out]; rfl)
          have g1 := DF.va.cell 1 (v := .int .i64 (y.room : Int)) rfl
          have g2 := DF.va.cell 2 (v := .bool y.off) rfl
          clear bf yk DF
          have dle : (sm : Int) ≤ (y.room : Int) := by have := HSM2.out; omega
          have dn := (HNG.out.resolve_left (by omega))
          have dneg : ixv < 0 := dn.1
          have dN : (64 : Int) ≤ (k : Int) := by omega
          clear dn
          go_wp2_with fail
          go_ret
          exact ⟨y, rfl, rfl, RLv.same HH.out HBf.out⟩
    · have m0 : 0 < (plen : Int) % 32 := by omega
      have m1 : ((nn : Nat) : Int) = (plen : Int) / 32 + 1 := by have := HNN.out; unfold cnt at this; omega
      have m2 : (plen : Int) / 32 + 1 ≤ 140737488355328 := by omega
      go_enter Try.func30, Try.ntmps30
      go_wp2_with fail
      refine (rname_ok s _ hs).mono ?_
      rintro e wn ⟨rfl, bn⟩
      rw [hna]
      have HBn : Hid (Below w.heap.size w wn) := bn
      have yn := (bn.cell (p := ⟨q, 0, none⟩) hlq).trans y0
      clear bn
      go_wp2_with fail
      rw [← m1]
      clear m1 m0 hm
      try clear m2
      go_loopw [8, 34] (fun al iv wr => ∃ (k sm : Nat), k ≤ N ∧ iv = .int .i64 (k : Int) ∧ al = .int .i64 (sm : Int) ∧ sm ≤ 200000000000000 ∧ Hid (sm = nn + rtot (y.fs.take k)) ∧ Hid (Below w.heap.size w wr)) (fun _ iv _ => N - (intOf iv).toNat)
      case atStart => exact ⟨0, nn, Nat.zero_le _, rfl, rfl, by omega, (show nn = nn + rtot (y.fs.take 0) by simp [rtot]), HBn.out⟩
      case round =>
        obtain ⟨k, sm, hk, rfl, rfl, hsm, HSM, HB⟩ := hrel
        by_cases hlt : k < N
        · have dk : (k : Int) < (N : Int) := by omega
          have hkl : k < y.fs.length := by rw [HN.out]; exact hlt
          obtain ⟨x, hx⟩ : ∃ x, x = y.fs[k] := ⟨_, rfl⟩
          obtain ⟨b, off, rfl, hbl, hcell⟩ := (HH.out.row.sl.step HB.out).at k x (by rw [hx]; exact List.getElem?_eq_getElem hkl)
          have HCL : Hid (∀ j v, [Value.string ⟨x.nm.toArray⟩, .slice x.ba x.bs.length x.bc, .slice x.ka x.ks.length x.kc][j]? = some v → wr.cell? ⟨b, off + k * 3 + j, none⟩ = some v) := hcell
          have hkx : x.ks.length ≤ 65536 := by
            have h1 := rtot_out (List.getElem_mem hkl)
            rw [← hx] at h1
            have h2 := HH.out.room
            omega
          have hst := rtot_take y.fs k hkl
          rw [← hx] at hst
          have hle := rtot_le_take y.fs (k + 1)
          have hrm := HH.out.room
          have hsum : sm + x.ks.length ≤ 200000000000000 := by have := HSM.out; omega
          have HST : Hid (sm + x.ks.length = nn + rtot (y.fs.take (k + 1))) := (show sm + x.ks.length = nn + rtot (y.fs.take (k + 1)) by have := HSM.out; omega)
          have HB1 : Hid (Below w.heap.size w (wr.alloc (.cells #[.string ⟨x.nm.toArray⟩, .slice x.ba x.bs.length x.bc, .slice x.ka x.ks.length x.kc] 94))) := HB.out.trans (((Below.refl wr.heap.size wr).alloc (Nat.le_refl _) _).mono HB.out.size)
          clear hcell hx hst hle hrm
          go_wp2_with (refine wpList_load_mid rfl 94 _ rfl b (off + k * 3) (by rfl) _ _ HCL.out Try.underlying94 rfl infoF3 ?_)
          go_roundw
          case rel => exact ⟨k + 1, sm + x.ks.length, by omega, by simp, by push_cast; rfl, hsum, HST.out, HB1.out⟩
          case measure => simp [intOf]; omega
        · obtain rfl : k = N := by omega
          have HSM2 : Hid (sm = nn + rtot y.fs) := (show sm = nn + rtot y.fs by have := HSM.out; rw [← HN.out, List.take_length] at this; exact this)
          clear HSM
          have yk := (HB.out.cell (p := ⟨q, 0, none⟩) hlq).trans y0
          go_wp2_with fail
          refine (rfind_ok wr B q _ y (HH.out.step HB.out) s).mono ?_
          rintro e wf ⟨rfl, bf⟩
          rw [HIX.out]
          have HBf : Hid (Below w.heap.size w wf) := HB.out.trans (bf.mono HB.out.size)
          have DF := HH.out.step HBf.out
          have g0 := DF.va.cell 0 (v := .slice fa k fc) (by rw [← HN.out]; rfl)
          have g1 := DF.va.cell 1 (v := .int .i64 (y.room : Int)) rfl
          have g2 := DF.va.cell 2 (v := .bool y.off) rfl
          clear bf yk DF
          have dle : (sm : Int) ≤ (y.room : Int) := by have := HSM2.out; omega
          have dn := (HNG.out.resolve_left (by omega))
          have dneg : ixv < 0 := dn.1
          have dN : (64 : Int) ≤ (k : Int) := by omega
          clear dn
          go_wp2_with fail
          go_ret
          exact ⟨y, rfl, rfl, RLv.same HH.out HBf.out⟩
end Go.Proofs.Ytakgkpiicigihaa
/- disk XLVIII: the document's Append, power off. -/
namespace Go.Proofs.Ytakgkpiicigihaa
open Go.RowKit Go.Maps Go.Sort Go.Shelf pk
set_option linter.unusedVariables false
set_option linter.unusedSimpArgs false

set_option maxRecDepth 100000 in
set_option maxHeartbeats 2000000 in
theorem rappend_off (w : World) (B q : Nat) (fv : Value) (y : RK) (h : RD w B q fv y) (s : ByteArray) (hs : s.size ≤ 9223372036854775807) (v : Value) (bs : List Nat) (hb : Bs w v bs) (hl : bs.length ≤ 140737488351232) (hna : isNm s.data.toList = true) (hof : y.off = true)
    (hfit : cnt bs.length + rtot y.fs ≤ y.room) (hcn : 0 ≤ rixI y.fs s.data.toList ∨ y.fs.length < 64) :
    Calls Try.prog 30 #[ptr q, .string s, v] w fun r w' => ∃ y', r = .returned (.int .i64 18) ∧ rs y' = rs y ∧ RLv w w' B q y' := by
  have HPB := (show Hid _ from hb)
  obtain ⟨hby, pa, pc, hpv, hp1, hp2, _⟩ := hb
  subst hpv
  obtain ⟨fa, fc, hfv, hc1, hc2⟩ := h.row.form
  subst hfv
  have HH := (show Hid _ from h)
  have hcnt := h.cnt
  have hroom := h.room
  have hlq := h.va.lt
  have y0 := h.va.cell 0 (v := .slice fa y.fs.length fc) rfl
  generalize hN : y.fs.length = N at *
  have HN := (show Hid _ from hN)
  generalize hPl : bs.length = plen at *
  have HPL : Hid (bs.length = plen) := hPl
  obtain ⟨nn, hnn⟩ : ∃ nn, nn = cnt plen := ⟨_, rfl⟩
  have HNN : Hid (nn = cnt plen) := hnn
  have hnb : nn ≤ 4398046511105 := by rw [hnn]; unfold cnt; omega
  have hp : (ptr q) = .pointer (some ⟨q, 0, none⟩) := rfl
  rw [hp]
  clear h hN hPl hby
  obtain ⟨ixv, hixv⟩ : ∃ ixv : Int, ixv = rixI y.fs s.data.toList := ⟨_, rfl⟩
  have HIX : Hid (rixI y.fs s.data.toList = ixv) := hixv.symm
  rw [← hixv] at hcn
  have HFIT : Hid (nn + rtot y.fs ≤ y.room) := (show nn + rtot y.fs ≤ y.room by rw [hnn]; exact hfit)
  clear hixv hnn hfit
  by_cases hneg : ixv < 0
  · by_cases hm : plen % 32 = 0
    · have m0 : (plen : Int) % 32 = 0 := by omega
      have m1 : ((nn : Nat) : Int) = (plen : Int) / 32 := by have := HNN.out; unfold cnt at this; omega
      go_enter Try.func30, Try.ntmps30
      go_wp2_with fail
      refine (rname_ok s _ hs).mono ?_
      rintro e wn ⟨rfl, bn⟩
      rw [hna]
      have HBn : Hid (Below w.heap.size w wn) := bn
      have yn := (bn.cell (p := ⟨q, 0, none⟩) hlq).trans y0
      clear bn
      go_wp2_with fail
      rw [← m1]
      clear m1 m0 hm
      try clear m2
      go_loopw [8, 34] (fun al iv wr => ∃ (k sm : Nat), k ≤ N ∧ iv = .int .i64 (k : Int) ∧ al = .int .i64 (sm : Int) ∧ sm ≤ 200000000000000 ∧ Hid (sm = nn + rtot (y.fs.take k)) ∧ Hid (Below w.heap.size w wr)) (fun _ iv _ => N - (intOf iv).toNat)
      case atStart => exact ⟨0, nn, Nat.zero_le _, rfl, rfl, by omega, (show nn = nn + rtot (y.fs.take 0) by simp [rtot]), HBn.out⟩
      case round =>
        obtain ⟨k, sm, hk, rfl, rfl, hsm, HSM, HB⟩ := hrel
        by_cases hlt : k < N
        · have dk : (k : Int) < (N : Int) := by omega
          have hkl : k < y.fs.length := by rw [HN.out]; exact hlt
          obtain ⟨x, hx⟩ : ∃ x, x = y.fs[k] := ⟨_, rfl⟩
          obtain ⟨b, off, rfl, hbl, hcell⟩ := (HH.out.row.sl.step HB.out).at k x (by rw [hx]; exact List.getElem?_eq_getElem hkl)
          have HCL : Hid (∀ j v, [Value.string ⟨x.nm.toArray⟩, .slice x.ba x.bs.length x.bc, .slice x.ka x.ks.length x.kc][j]? = some v → wr.cell? ⟨b, off + k * 3 + j, none⟩ = some v) := hcell
          have hkx : x.ks.length ≤ 65536 := by
            have h1 := rtot_out (List.getElem_mem hkl)
            rw [← hx] at h1
            have h2 := HH.out.room
            omega
          have hst := rtot_take y.fs k hkl
          rw [← hx] at hst
          have hle := rtot_le_take y.fs (k + 1)
          have hrm := HH.out.room
          have hsum : sm + x.ks.length ≤ 200000000000000 := by have := HSM.out; omega
          have HST : Hid (sm + x.ks.length = nn + rtot (y.fs.take (k + 1))) := (show sm + x.ks.length = nn + rtot (y.fs.take (k + 1)) by have := HSM.out; omega)
          have HB1 : Hid (Below w.heap.size w (wr.alloc (.cells #[.string ⟨x.nm.toArray⟩, .slice x.ba x.bs.length x.bc, .slice x.ka x.ks.length x.kc] 94))) := HB.out.trans (((Below.refl wr.heap.size wr).alloc (Nat.le_refl _) _).mono HB.out.size)
          clear hcell hx hst hle hrm
          go_wp2_with (refine wpList_load_mid rfl 94 _ rfl b (off + k * 3) (by rfl) _ _ HCL.out Try.underlying94 rfl infoF3 ?_)
          go_roundw
          case rel => exact ⟨k + 1, sm + x.ks.length, by omega, by simp, by push_cast; rfl, hsum, HST.out, HB1.out⟩
          case measure => simp [intOf]; omega
        · obtain rfl : k = N := by omega
          have HSM2 : Hid (sm = nn + rtot y.fs) := (show sm = nn + rtot y.fs by have := HSM.out; rw [← HN.out, List.take_length] at this; exact this)
          clear HSM
          have yk := (HB.out.cell (p := ⟨q, 0, none⟩) hlq).trans y0
          go_wp2_with fail
          refine (rfind_ok wr B q _ y (HH.out.step HB.out) s).mono ?_
          rintro e wf ⟨rfl, bf⟩
          rw [HIX.out]
          have HBf : Hid (Below w.heap.size w wf) := HB.out.trans (bf.mono HB.out.size)
          have DF := HH.out.step HBf.out
          have g0 := DF.va.cell 0 (v := .slice fa k fc) (by rw [← HN.out]; rfl)
          have g1 := DF.va.cell 1 (v := .int .i64 (y.room : Int)) rfl
          have g2 := DF.va.cell 2 (v := .bool y.off) rfl
          clear bf yk DF
          have dle : (sm : Int) ≤ (y.room : Int) := by have := HSM2.out; have := HFIT.out; omega
          rw [hof] at g2
          have dN : (k : Int) < 64 := by omega
          go_wp2_with fail
          go_ret
          first | exact ⟨y, rfl, rfl, RLv.same HH.out HBf.out⟩ | exact ⟨rfl, y, rfl, RLv.same HH.out HBf.out⟩
    · have m0 : 0 < (plen : Int) % 32 := by omega
      have m1 : ((nn : Nat) : Int) = (plen : Int) / 32 + 1 := by have := HNN.out; unfold cnt at this; omega
      have m2 : (plen : Int) / 32 + 1 ≤ 140737488355328 := by omega
      go_enter Try.func30, Try.ntmps30
      go_wp2_with fail
      refine (rname_ok s _ hs).mono ?_
      rintro e wn ⟨rfl, bn⟩
      rw [hna]
      have HBn : Hid (Below w.heap.size w wn) := bn
      have yn := (bn.cell (p := ⟨q, 0, none⟩) hlq).trans y0
      clear bn
      go_wp2_with fail
      rw [← m1]
      clear m1 m0 hm
      try clear m2
      go_loopw [8, 34] (fun al iv wr => ∃ (k sm : Nat), k ≤ N ∧ iv = .int .i64 (k : Int) ∧ al = .int .i64 (sm : Int) ∧ sm ≤ 200000000000000 ∧ Hid (sm = nn + rtot (y.fs.take k)) ∧ Hid (Below w.heap.size w wr)) (fun _ iv _ => N - (intOf iv).toNat)
      case atStart => exact ⟨0, nn, Nat.zero_le _, rfl, rfl, by omega, (show nn = nn + rtot (y.fs.take 0) by simp [rtot]), HBn.out⟩
      case round =>
        obtain ⟨k, sm, hk, rfl, rfl, hsm, HSM, HB⟩ := hrel
        by_cases hlt : k < N
        · have dk : (k : Int) < (N : Int) := by omega
          have hkl : k < y.fs.length := by rw [HN.out]; exact hlt
          obtain ⟨x, hx⟩ : ∃ x, x = y.fs[k] := ⟨_, rfl⟩
          obtain ⟨b, off, rfl, hbl, hcell⟩ := (HH.out.row.sl.step HB.out).at k x (by rw [hx]; exact List.getElem?_eq_getElem hkl)
          have HCL : Hid (∀ j v, [Value.string ⟨x.nm.toArray⟩, .slice x.ba x.bs.length x.bc, .slice x.ka x.ks.length x.kc][j]? = some v → wr.cell? ⟨b, off + k * 3 + j, none⟩ = some v) := hcell
          have hkx : x.ks.length ≤ 65536 := by
            have h1 := rtot_out (List.getElem_mem hkl)
            rw [← hx] at h1
            have h2 := HH.out.room
            omega
          have hst := rtot_take y.fs k hkl
          rw [← hx] at hst
          have hle := rtot_le_take y.fs (k + 1)
          have hrm := HH.out.room
          have hsum : sm + x.ks.length ≤ 200000000000000 := by have := HSM.out; omega
          have HST : Hid (sm + x.ks.length = nn + rtot (y.fs.take (k + 1))) := (show sm + x.ks.length = nn + rtot (y.fs.take (k + 1)) by have := HSM.out; omega)
          have HB1 : Hid (Below w.heap.size w (wr.alloc (.cells #[.string ⟨x.nm.toArray⟩, .slice x.ba x.bs.length x.bc, .slice x.ka x.ks.length x.kc] 94))) := HB.out.trans (((Below.refl wr.heap.size wr).alloc (Nat.le_refl _) _).mono HB.out.size)
          clear hcell hx hst hle hrm
          go_wp2_with (refine wpList_load_mid rfl 94 _ rfl b (off + k * 3) (by rfl) _ _ HCL.out Try.underlying94 rfl infoF3 ?_)
          go_roundw
          case rel => exact ⟨k + 1, sm + x.ks.length, by omega, by simp, by push_cast; rfl, hsum, HST.out, HB1.out⟩
          case measure => simp [intOf]; omega
        · obtain rfl : k = N := by omega
          have HSM2 : Hid (sm = nn + rtot y.fs) := (show sm = nn + rtot y.fs by have := HSM.out; rw [← HN.out, List.take_length] at this; exact this)
          clear HSM
          have yk := (HB.out.cell (p := ⟨q, 0, none⟩) hlq).trans y0
          go_wp2_with fail
          refine (rfind_ok wr B q _ y (HH.out.step HB.out) s).mono ?_
          rintro e wf ⟨rfl, bf⟩
          rw [HIX.out]
          have HBf : Hid (Below w.heap.size w wf) := HB.out.trans (bf.mono HB.out.size)
          have DF := HH.out.step HBf.out
          have g0 := DF.va.cell 0 (v := .slice fa k fc) (by rw [← HN.out]; rfl)
          have g1 := DF.va.cell 1 (v := .int .i64 (y.room : Int)) rfl
          have g2 := DF.va.cell 2 (v := .bool y.off) rfl
          clear bf yk DF
          have dle : (sm : Int) ≤ (y.room : Int) := by have := HSM2.out; have := HFIT.out; omega
          rw [hof] at g2
          have dN : (k : Int) < 64 := by omega
          go_wp2_with fail
          go_ret
          first | exact ⟨y, rfl, rfl, RLv.same HH.out HBf.out⟩ | exact ⟨rfl, y, rfl, RLv.same HH.out HBf.out⟩
  · by_cases hm : plen % 32 = 0
    · have m0 : (plen : Int) % 32 = 0 := by omega
      have m1 : ((nn : Nat) : Int) = (plen : Int) / 32 := by have := HNN.out; unfold cnt at this; omega
      go_enter Try.func30, Try.ntmps30
      go_wp2_with fail
      refine (rname_ok s _ hs).mono ?_
      rintro e wn ⟨rfl, bn⟩
      rw [hna]
      have HBn : Hid (Below w.heap.size w wn) := bn
      have yn := (bn.cell (p := ⟨q, 0, none⟩) hlq).trans y0
      clear bn
      go_wp2_with fail
      rw [← m1]
      clear m1 m0 hm
      try clear m2
      go_loopw [8, 34] (fun al iv wr => ∃ (k sm : Nat), k ≤ N ∧ iv = .int .i64 (k : Int) ∧ al = .int .i64 (sm : Int) ∧ sm ≤ 200000000000000 ∧ Hid (sm = nn + rtot (y.fs.take k)) ∧ Hid (Below w.heap.size w wr)) (fun _ iv _ => N - (intOf iv).toNat)
      case atStart => exact ⟨0, nn, Nat.zero_le _, rfl, rfl, by omega, (show nn = nn + rtot (y.fs.take 0) by simp [rtot]), HBn.out⟩
      case round =>
        obtain ⟨k, sm, hk, rfl, rfl, hsm, HSM, HB⟩ := hrel
        by_cases hlt : k < N
        · have dk : (k : Int) < (N : Int) := by omega
          have hkl : k < y.fs.length := by rw [HN.out]; exact hlt
          obtain ⟨x, hx⟩ : ∃ x, x = y.fs[k] := ⟨_, rfl⟩
          obtain ⟨b, off, rfl, hbl, hcell⟩ := (HH.out.row.sl.step HB.out).at k x (by rw [hx]; exact List.getElem?_eq_getElem hkl)
          have HCL : Hid (∀ j v, [Value.string ⟨x.nm.toArray⟩, .slice x.ba x.bs.length x.bc, .slice x.ka x.ks.length x.kc][j]? = some v → wr.cell? ⟨b, off + k * 3 + j, none⟩ = some v) := hcell
          have hkx : x.ks.length ≤ 65536 := by
            have h1 := rtot_out (List.getElem_mem hkl)
            rw [← hx] at h1
            have h2 := HH.out.room
            omega
          have hst := rtot_take y.fs k hkl
          rw [← hx] at hst
          have hle := rtot_le_take y.fs (k + 1)
          have hrm := HH.out.room
          have hsum : sm + x.ks.length ≤ 200000000000000 := by have := HSM.out; omega
          have HST : Hid (sm + x.ks.length = nn + rtot (y.fs.take (k + 1))) := (show sm + x.ks.length = nn + rtot (y.fs.take (k + 1)) by have := HSM.out; omega)
          have HB1 : Hid (Below w.heap.size w (wr.alloc (.cells #[.string ⟨x.nm.toArray⟩, .slice x.ba x.bs.length x.bc, .slice x.ka x.ks.length x.kc] 94))) := HB.out.trans (((Below.refl wr.heap.size wr).alloc (Nat.le_refl _) _).mono HB.out.size)
          clear hcell hx hst hle hrm
          go_wp2_with (refine wpList_load_mid rfl 94 _ rfl b (off + k * 3) (by rfl) _ _ HCL.out Try.underlying94 rfl infoF3 ?_)
          go_roundw
          case rel => exact ⟨k + 1, sm + x.ks.length, by omega, by simp, by push_cast; rfl, hsum, HST.out, HB1.out⟩
          case measure => simp [intOf]; omega
        · obtain rfl : k = N := by omega
          have HSM2 : Hid (sm = nn + rtot y.fs) := (show sm = nn + rtot y.fs by have := HSM.out; rw [← HN.out, List.take_length] at this; exact this)
          clear HSM
          have yk := (HB.out.cell (p := ⟨q, 0, none⟩) hlq).trans y0
          go_wp2_with fail
          refine (rfind_ok wr B q _ y (HH.out.step HB.out) s).mono ?_
          rintro e wf ⟨rfl, bf⟩
          rw [HIX.out]
          have HBf : Hid (Below w.heap.size w wf) := HB.out.trans (bf.mono HB.out.size)
          have DF := HH.out.step HBf.out
          have g0 := DF.va.cell 0 (v := .slice fa k fc) (by rw [← HN.out]; rfl)
          have g1 := DF.va.cell 1 (v := .int .i64 (y.room : Int)) rfl
          have g2 := DF.va.cell 2 (v := .bool y.off) rfl
          clear bf yk DF
          have dle : (sm : Int) ≤ (y.room : Int) := by have := HSM2.out; have := HFIT.out; omega
          rw [hof] at g2
          have dps : (0 : Int) ≤ ixv := by omega
          go_wp2_with fail
          go_ret
          first | exact ⟨y, rfl, rfl, RLv.same HH.out HBf.out⟩ | exact ⟨rfl, y, rfl, RLv.same HH.out HBf.out⟩
    · have m0 : 0 < (plen : Int) % 32 := by omega
      have m1 : ((nn : Nat) : Int) = (plen : Int) / 32 + 1 := by have := HNN.out; unfold cnt at this; omega
      have m2 : (plen : Int) / 32 + 1 ≤ 140737488355328 := by omega
      go_enter Try.func30, Try.ntmps30
      go_wp2_with fail
      refine (rname_ok s _ hs).mono ?_
      rintro e wn ⟨rfl, bn⟩
      rw [hna]
      have HBn : Hid (Below w.heap.size w wn) := bn
      have yn := (bn.cell (p := ⟨q, 0, none⟩) hlq).trans y0
      clear bn
      go_wp2_with fail
      rw [← m1]
      clear m1 m0 hm
      try clear m2
      go_loopw [8, 34] (fun al iv wr => ∃ (k sm : Nat), k ≤ N ∧ iv = .int .i64 (k : Int) ∧ al = .int .i64 (sm : Int) ∧ sm ≤ 200000000000000 ∧ Hid (sm = nn + rtot (y.fs.take k)) ∧ Hid (Below w.heap.size w wr)) (fun _ iv _ => N - (intOf iv).toNat)
      case atStart => exact ⟨0, nn, Nat.zero_le _, rfl, rfl, by omega, (show nn = nn + rtot (y.fs.take 0) by simp [rtot]), HBn.out⟩
      case round =>
        obtain ⟨k, sm, hk, rfl, rfl, hsm, HSM, HB⟩ := hrel
        by_cases hlt : k < N
        · have dk : (k : Int) < (N : Int) := by omega
          have hkl : k < y.fs.length := by rw [HN.out]; exact hlt
          obtain ⟨x, hx⟩ : ∃ x, x = y.fs[k] := ⟨_, rfl⟩
          obtain ⟨b, off, rfl, hbl, hcell⟩ := (HH.out.row.sl.step HB.out).at k x (by rw [hx]; exact List.getElem?_eq_getElem hkl)
          have HCL : Hid (∀ j v, [Value.string ⟨x.nm.toArray⟩, .slice x.ba x.bs.length x.bc, .slice x.ka x.ks.length x.kc][j]? = some v → wr.cell? ⟨b, off + k * 3 + j, none⟩ = some v) := hcell
          have hkx : x.ks.length ≤ 65536 := by
            have h1 := rtot_out (List.getElem_mem hkl)
            rw [← hx] at h1
            have h2 := HH.out.room
            omega
          have hst := rtot_take y.fs k hkl
          rw [← hx] at hst
          have hle := rtot_le_take y.fs (k + 1)
          have hrm := HH.out.room
          have hsum : sm + x.ks.length ≤ 200000000000000 := by have := HSM.out; omega
          have HST : Hid (sm + x.ks.length = nn + rtot (y.fs.take (k + 1))) := (show sm + x.ks.length = nn + rtot (y.fs.take (k + 1)) by have := HSM.out; omega)
          have HB1 : Hid (Below w.heap.size w (wr.alloc (.cells #[.string ⟨x.nm.toArray⟩, .slice x.ba x.bs.length x.bc, .slice x.ka x.ks.length x.kc] 94))) := HB.out.trans (((Below.refl wr.heap.size wr).alloc (Nat.le_refl _) _).mono HB.out.size)
          clear hcell hx hst hle hrm
          go_wp2_with (refine wpList_load_mid rfl 94 _ rfl b (off + k * 3) (by rfl) _ _ HCL.out Try.underlying94 rfl infoF3 ?_)
          go_roundw
          case rel => exact ⟨k + 1, sm + x.ks.length, by omega, by simp, by push_cast; rfl, hsum, HST.out, HB1.out⟩
          case measure => simp [intOf]; omega
        · obtain rfl : k = N := by omega
          have HSM2 : Hid (sm = nn + rtot y.fs) := (show sm = nn + rtot y.fs by have := HSM.out; rw [← HN.out, List.take_length] at this; exact this)
          clear HSM
          have yk := (HB.out.cell (p := ⟨q, 0, none⟩) hlq).trans y0
          go_wp2_with fail
          refine (rfind_ok wr B q _ y (HH.out.step HB.out) s).mono ?_
          rintro e wf ⟨rfl, bf⟩
          rw [HIX.out]
          have HBf : Hid (Below w.heap.size w wf) := HB.out.trans (bf.mono HB.out.size)
          have DF := HH.out.step HBf.out
          have g0 := DF.va.cell 0 (v := .slice fa k fc) (by rw [← HN.out]; rfl)
          have g1 := DF.va.cell 1 (v := .int .i64 (y.room : Int)) rfl
          have g2 := DF.va.cell 2 (v := .bool y.off) rfl
          clear bf yk DF
          have dle : (sm : Int) ≤ (y.room : Int) := by have := HSM2.out; have := HFIT.out; omega
          rw [hof] at g2
          have dps : (0 : Int) ≤ ixv := by omega
          go_wp2_with fail
          go_ret
          first | exact ⟨y, rfl, rfl, RLv.same HH.out HBf.out⟩ | exact ⟨rfl, y, rfl, RLv.same HH.out HBf.out⟩
end Go.Proofs.Ytakgkpiicigihaa
