/- disk LV: the document's Names, SameNames, New. -/
import Derived.Test.YtakgkpiicigihaaM3
import Derived.Test.YtakgkpiicigihaaM4
import Derived.BigQuiet
namespace Go.Proofs.Ytakgkpiicigihaa
open Go.RowKit Go.Maps Go.Sort Go.Shelf pk
set_option linter.unusedVariables false
set_option linter.unusedSimpArgs false

theorem infoSt : (Try.prog.info? 9).map (fun i => (i.zero.map (fun z => z.cells.size), i.size, i.bytes)) = some (some 1, 1, 16) := by kernel_rfl
/-- rows of texts -/
def KN : Kd (List UInt8) where
  T := 9
  S := 58
  k := 1
  bt := 16
  enc := fun l => [.string ⟨l.toArray⟩]
  info := by
    obtain ⟨i, hi, hz⟩ := Option.map_eq_some_iff.1 infoSt
    simp only [Prod.mk.injEq] at hz
    obtain ⟨z, hz0, hz1⟩ := Option.map_eq_some_iff.1 hz.1
    exact ⟨i, z, hi, hz0, hz.2.1, hz.2.2, hz1⟩
  und := Try.underlying58
  pos := by decide
  len := fun _ => rfl
  one := fun x v h => by simp at h; rw [h]; rfl
/-- a slice of texts -/
def Sn (w : World) (v : Value) (ns : List (List UInt8)) : Prop := ∃ a c, v = .slice a ns.length c ∧ ns.length ≤ c ∧ c ≤ 9223372036854775807 ∧ ∀ i l, ns[i]? = some l → ∃ b off, a = some ⟨b, off, none⟩ ∧ w.cell? ⟨b, off + i, none⟩ = some (.string ⟨l.toArray⟩) ∧ b < w.heap.size
theorem Sn.step {w w' : World} {v : Value} {ns : List (List UInt8)} (h : Sn w v ns) (k : Below w.heap.size w w') : Sn w' v ns := by
  obtain ⟨a, c, h1, h2, h3, h4⟩ := h
  refine ⟨a, c, h1, h2, h3, fun i l hl => ?_⟩
  obtain ⟨b, off, h5, h6, h7⟩ := h4 i l hl
  exact ⟨b, off, h5, (k.cell (p := ⟨b, off + i, none⟩) h7).trans h6, Nat.lt_of_lt_of_le h7 k.size⟩
theorem OwnN.sn {w : World} {B : Nat} {v : Value} {ns : List (List UInt8)} (h : OwnN w B v ns) : Sn w v ns := by
  obtain ⟨a, c, h1, h2, h3, h4⟩ := h.cells
  refine ⟨a, c, h1, h2, h3, fun i l hl => ?_⟩
  obtain ⟨g, h5, h6, cs, T, z, h7, _⟩ := h4 i l hl
  exact ⟨g, 0, h5, by rw [Nat.zero_add]; exact h6, hlt_of h7⟩
theorem Own.sn {w : World} {B : Nat} {v : Value} {ns : List (List UInt8)} (h : Own KN w B v ns) : Sn w v ns := by
  obtain ⟨a, c, rfl, h2, h3⟩ := h.form
  refine ⟨a, c, rfl, h2, h3, fun i l hl => ?_⟩
  obtain ⟨b, off, h5, h6, h7⟩ := h.sl.at i l hl
  refine ⟨b, off, h5, ?_, h6⟩
  have := h7 0 (.string ⟨l.toArray⟩) rfl
  simpa [KN] using this
theorem ba_eq (l : List UInt8) : (⟨l.toArray⟩ : ByteArray).toList = l := by rw [ByteArray.toList_eq]
set_option maxRecDepth 100000 in
theorem sameNames_ok (w : World) (u v : Value) (ns ms : List (List UInt8)) (hu : Sn w u ns) (hv : Sn w v ms) (hl : ns.length ≤ 1000) :
    Calls Try.prog 39 #[u, v] w fun e w' => e = .returned (.bool (decide (ns = ms))) ∧ Below w.heap.size w w' := by
  obtain ⟨a, c, rfl, h2, h3, h4⟩ := hu
  obtain ⟨a', c', rfl, h2', h3', h4'⟩ := hv
  by_cases hlen : ns.length = ms.length
  · have HA : Hid (∀ i l, ns[i]? = some l → ∃ b off, a = some ⟨b, off, none⟩ ∧ w.cell? ⟨b, off + i, none⟩ = some (.string ⟨l.toArray⟩) ∧ b < w.heap.size) := h4
    have HA' : Hid (∀ i l, ms[i]? = some l → ∃ b off, a' = some ⟨b, off, none⟩ ∧ w.cell? ⟨b, off + i, none⟩ = some (.string ⟨l.toArray⟩) ∧ b < w.heap.size) := h4'
    rw [← hlen]
    rw [← hlen] at h2'
    have HM : Hid (ms.length = ns.length) := hlen.symm
    clear h4 h4' hlen
    generalize hN : ns.length = N at *
    have HN := (show Hid _ from hN)
    clear hN
    go_enter Try.func39, Try.ntmps39
    go_wp2_with fail
    go_loopw [13] (fun i wr => ∃ k : Nat, k ≤ N ∧ i = .int .i64 (k : Int) ∧ Hid (∀ j, j < k → ns[j]? = ms[j]?) ∧ Hid (Below w.heap.size w wr)) (fun i _ => N - (intOf i).toNat)
    case atStart => exact ⟨0, Nat.zero_le _, rfl, fun j h => absurd h (by omega), Below.refl _ _⟩
    case round =>
      obtain ⟨k, hk, rfl, HE, HB⟩ := hrel
      by_cases hlt : k < N
      · have dk : (k : Int) < (N : Int) := by omega
        have hkl : k < ns.length := by rw [HN.out]; exact hlt
        have hkm : k < ms.length := by rw [HM.out]; exact hlt
        obtain ⟨l, hlk⟩ : ∃ l, ns[k]? = some l := ⟨_, List.getElem?_eq_getElem hkl⟩
        obtain ⟨m, hmk⟩ : ∃ m, ms[k]? = some m := ⟨_, List.getElem?_eq_getElem hkm⟩
        obtain ⟨b, off, rfl, hc0, hb0⟩ := HA.out k l hlk
        have hc := (HB.out.cell (p := ⟨b, off + k, none⟩) hb0).trans hc0
        obtain ⟨b', off', rfl, hc0', hb0'⟩ := HA'.out k m hmk
        have hc' := (HB.out.cell (p := ⟨b', off' + k, none⟩) hb0').trans hc0'
        clear hc0 hc0'
        have HLK : Hid (ns[k]? = some l) := hlk
        have HMK : Hid (ms[k]? = some m) := hmk
        clear hkl hkm hlk hmk
        by_cases he : l = m
        · subst he
          go_wp2_with fail
          go_quiet (fail)
          go_wp2_with fail
          go_roundw
          case rel => exact ⟨k + 1, by omega, by simp, fun j h => (by
            rcases Nat.lt_succ_iff_lt_or_eq.1 h with h | h
            · exact HE.out j h
            · subst h; rw [HLK.out, HMK.out]), bel_drewN HB.out _⟩
          case measure => simp [intOf]; omega
        · have dA : (l == m) = false := beq_eq_false_iff_ne.2 he
          have HNE : Hid (¬ ns = ms) := (show ¬ ns = ms from fun e => he (by have h1 := HLK.out; rw [e, HMK.out] at h1; exact (Option.some.inj h1).symm))
          clear he
          go_wp2_with fail
          go_quiet (fail)
          go_wp2_with fail
          go_ret
          exact ⟨by rw [decide_eq_false HNE.out]; rfl, bel_drewN HB.out _⟩
      · obtain rfl : k = N := by omega
        go_wp2_with fail
        go_ret
        have hE : ns = ms := by
          refine List.ext_getElem? (fun j => ?_)
          by_cases hj : j < k
          · exact HE.out j hj
          · rw [List.getElem?_eq_none (by rw [HN.out]; omega), List.getElem?_eq_none (by rw [HM.out]; omega)]
        exact ⟨by rw [decide_eq_true hE]; rfl, HB.out⟩
  · have d1 : ((ns.length : Int) == (ms.length : Int)) = false := by simp; omega
    have HNE : Hid (¬ ns = ms) := (show ¬ ns = ms from fun e => hlen (by rw [e]))
    have d2 : ((ns.length : Int) = (ms.length : Int)) = False := by simp; omega
    generalize ns.length = N at *
    generalize ms.length = M at *
    clear hlen h4 h4'
    go_enter Try.func39, Try.ntmps39
    go_wp2_with fail
    go_ret
    exact ⟨by rw [decide_eq_false HNE.out]; rfl, Below.refl _ _⟩
/-- the names, or none -/
def rnms (y : RK) : List (List UInt8) := if y.off then [] else y.fs.map (·.nm)
set_option maxRecDepth 100000 in
set_option maxHeartbeats 2000000 in
theorem rnames_ok (w : World) (B q : Nat) (fv : Value) (y : RK) (h : RD w B q fv y) :
    Calls Try.prog 40 #[ptr q] w fun e w' => (∃ v, e = .returned v ∧ Own KN w' w.heap.size v (rnms y)) ∧ Below w.heap.size w w' := by
  obtain ⟨fa, fc, hfv, hc1, hc2⟩ := h.row.form
  subst hfv
  have HH := (show Hid _ from h)
  have y2 := h.va.cell 2 (v := .bool y.off) rfl
  have y0 := h.va.cell 0 (v := .slice fa y.fs.length fc) rfl
  have hcnt := h.cnt
  have hp : (ptr q) = .pointer (some ⟨q, 0, none⟩) := rfl
  rw [hp]
  clear h
  unfold rnms
  cases hof : y.off with
  | true =>
    rw [hof] at y2
    generalize y.fs.length = N at *
    go_enter Try.func40, Try.ntmps40
    go_wp2_with fail
    go_ret
    exact ⟨⟨_, rfl, own_nil _ _ _⟩, Below.refl _ _⟩
  | false =>
    rw [hof] at y2
    rw [if_neg (by simp)]
    generalize hN : y.fs.length = N at *
    have HN := (show Hid _ from hN)
    obtain ⟨BASE, hbase⟩ : ∃ n, n = w.heap.size := ⟨_, rfl⟩
    have HBASE : Hid (BASE = w.heap.size) := hbase
    rw [← hbase]
    have HSL : Hid (∀ w', Below BASE w w' → Sl KF w' (.slice fa N fc) y.fs) := fun w' h => HH.out.row.sl.step (by rw [HBASE.out] at h; exact h)
    clear hN hbase
    go_enter Try.func40, Try.ntmps40
    go_wp2_with fail
    go_loopw [3, 20] (fun l i wr => ∃ k : Nat, k ≤ N ∧ i = .int .i64 (k : Int) ∧ (∃ la ln lc, l = .slice la ln lc) ∧ Hid (Own KN wr BASE l ((y.fs.take k).map (·.nm))) ∧ Hid (Below BASE w wr) ∧ Hid (BASE ≤ wr.heap.size)) (fun _ i _ => N - (intOf i).toNat)
    case atStart => exact ⟨0, Nat.zero_le _, rfl, ⟨_, _, _, rfl⟩, own_nil _ _ _, Below.refl _ _, Nat.le_of_eq HBASE.out⟩
    case round =>
      obtain ⟨k, hk, rfl, ⟨la, ln, lc, rfl⟩, HO, HB, HBS⟩ := hrel
      by_cases hlt : k < N
      · have dk : (k : Int) < (N : Int) := by omega
        have hkl : k < y.fs.length := by rw [HN.out]; exact hlt
        obtain ⟨x, hx⟩ : ∃ x, x = y.fs[k] := ⟨_, rfl⟩
        obtain ⟨b, off, rfl, hbl, hcell⟩ := (HSL.out wr HB.out).at k x (by rw [hx]; exact List.getElem?_eq_getElem hkl)
        have HTK : Hid ((y.fs.take (k + 1)).map (·.nm) = (y.fs.take k).map (·.nm) ++ [x.nm]) := by
          show _ = _
          rw [List.take_add_one, List.getElem?_eq_getElem hkl, ← hx]
          simp
        have HLN : Hid (((y.fs.take k).map (·.nm)).length = k) := (show ((y.fs.take k).map (·.nm)).length = k by simp; omega)
        have HCL : Hid (∀ j u, x.cells[j]? = some u → wr.cell? ⟨b, off + k * 3 + j, none⟩ = some u) := hcell
        clear hcell hx
        unfold RF.cells RF.bv RF.kv at HCL
        have HB1 : Hid (Below wr.heap.size wr (wr.alloc (.cells #[.string ⟨x.nm.toArray⟩, .slice x.ba x.bs.length x.bc, .slice x.ka x.ks.length x.kc] 94))) := (Below.refl wr.heap.size wr).alloc (Nat.le_refl _) _
        have HB2 : Hid (Below BASE w (wr.alloc (.cells #[.string ⟨x.nm.toArray⟩, .slice x.ba x.bs.length x.bc, .slice x.ka x.ks.length x.kc] 94))) := HB.out.trans (HB1.out.mono HBS.out)
        have HOX : Hid (Own KN (wr.alloc (.cells #[.string ⟨x.nm.toArray⟩, .slice x.ba x.bs.length x.bc, .slice x.ka x.ks.length x.kc] 94)) BASE (.slice la ln lc) ((y.fs.take k).map (·.nm))) := HO.out.step HB1.out
        have HOXb : Hid (BASE ≤ (wr.alloc (.cells #[.string ⟨x.nm.toArray⟩, .slice x.ba x.bs.length x.bc, .slice x.ka x.ks.length x.kc] 94)).heap.size) := Nat.le_trans HBS.out HB1.out.size
        have HVX : Hid (VA (wr.alloc (.cells #[.string ⟨x.nm.toArray⟩, .slice x.ba x.bs.length x.bc, .slice x.ka x.ks.length x.kc] 94)) wr.heap.size x.cells 94) := va_new wr x.cells _
        go_upto_region 6 with (refine wpList_load_mid rfl 94 _ rfl b (off + k * 3) (by rfl) _ _ HCL.out Try.underlying94 rfl infoF3 ?_)
        generalize hwb : wr.alloc (.cells #[.string ⟨x.nm.toArray⟩, .slice x.ba x.bs.length x.bc, .slice x.ka x.ks.length x.kc] 94) = wb at *
        have p0 := HVX.out.cell 0 (v := .string ⟨x.nm.toArray⟩) rfl
        clear hwb
        go_wp2_with (at_builtin; refine appOneG (K := KN) rfl _ _ rfl BASE ((y.fs.take k).map (·.nm)) _ x.nm (by rfl) (by rfl) HOX.out HOXb.out (by have := HLN.out; show (((y.fs.take k).map (·.nm)).length + 1) * 16 ≤ _; omega) (by have := HLN.out; omega) _ rfl ?_; intro v1 w1 o1 b1 g1; have HO1 := (show Hid _ from o1); have HBB1 := (show Hid _ from b1); obtain ⟨a1, c1, hv1, _⟩ := o1.form; generalize hn1 : ((y.fs.take k).map (·.nm) ++ [x.nm]).length = n1 at hv1; subst hv1; clear o1 b1 g1 hn1)
        go_roundw
        case rel => exact ⟨k + 1, by omega, by simp, ⟨_, _, _, rfl⟩, (by rw [HTK.out]; exact HO1.out), HB2.out.trans HBB1.out, (Nat.le_trans HOXb.out HBB1.out.size)⟩
        case measure => simp [intOf]; omega
      · obtain rfl : k = N := by omega
        go_wp2_with fail
        go_ret
        refine ⟨⟨_, rfl, ?_⟩, HB.out⟩
        have := HO.out
        rwa [List.take_of_length_le (by rw [HN.out]; exact Nat.le_refl _)] at this
set_option maxRecDepth 100000 in
theorem rnew_ok (n : Nat) (w : World) (h : 1 ≤ n) (h2 : n ≤ 65536) :
    Calls Try.prog 11 #[.int .i64 (n : Int)] w fun e w' => ∃ q, e = .returned (.tuple #[ptr q, .int .i64 0]) ∧ RD w' w.heap.size q (.slice none 0 0) ⟨[], n, false, 0, 0, 0, [], [], 0⟩ ∧ Below w.heap.size w w' := by
  have d1 : (1 : Int) ≤ (n : Int) := by omega
  have d2 : (n : Int) ≤ 65536 := by omega
  have HH : Hid (1 ≤ n ∧ n ≤ 65536) := ⟨h, h2⟩
  clear h h2
  go_enter Try.func11, Try.ntmps11
  go_wp2_with fail
  refine bodyPost_ret (v := .tuple #[.pointer (some ⟨w.heap.size, 0, none⟩), .int .i64 0]) (by simp [results, Try.results11, go_sem]) rfl ?_
  refine ⟨w.heap.size, rfl, ⟨va_new w _ _, own_nil _ _ _, fun f hf => (by cases hf), Nat.le_refl _, Nat.zero_le _, ⟨Nat.zero_le _, HH.out.2⟩⟩, (Below.refl _ _).alloc (Nat.le_refl _) _⟩
end Go.Proofs.Ytakgkpiicigihaa
/- disk LIX: Spare, Kept; bytes that are turned over. -/
namespace Go.Proofs.Ytakgkpiicigihaa
open Go.RowKit Go.Maps Go.Sort Go.Shelf pk
set_option linter.unusedVariables false
set_option linter.unusedSimpArgs false

theorem bs_new (w : World) (bs : List Nat) (hby : By bs) (n : Nat) (hl : bs.length = n) (hn : n ≤ 1000) (T : TypeId) :
    Bs (w.alloc (.cells (cl bs).toArray T)) (.slice (some ⟨w.heap.size, 0, none⟩) n n) bs := by
  subst hl
  refine ⟨hby, _, _, rfl, Nat.le_refl _, by omega, fun h => (by cases h), fun h0 => ⟨w.heap.size, 0, rfl, by simp, fun k hk => ?_⟩⟩
  rw [Nat.zero_add]
  have h1 := cl_get bs k hk
  simp [go_sem, h1]
def mark : List Nat := [165, 90, 165]
theorem head3 {w : World} {B : Nat} {v : Value} {bs : List Nat} (h : OwnB w B v (bs ++ mark)) : ∃ g cap, v = .slice (some ⟨g, 0, none⟩) (bs.length + 3) cap ∧ bs.length + 3 ≤ cap ∧ cap ≤ 9223372036854775807 := by
  rcases h.head with ⟨_, e⟩ | ⟨g, cap, e, h1, h2, h3, h4⟩
  · simp [mark] at e
  · have hl : (bs ++ mark).length = bs.length + 3 := by simp [mark]
    rw [hl] at e h3
    exact ⟨g, cap, e, h3, h4⟩
set_option maxRecDepth 100000 in
theorem spare_ok (v : Value) (bs : List Nat) (w : World) (h : Bs w v bs) (hl : bs.length + 3 ≤ 140737488355328) :
    Calls Try.prog 28 #[v] w fun e w' => (∃ g cap, e = .returned (.tuple #[.slice (some ⟨g, 0, none⟩) bs.length cap, .slice (some ⟨g, 0, none⟩) (bs.length + 3) cap]) ∧ OwnB w' w.heap.size (.slice (some ⟨g, 0, none⟩) (bs.length + 3) cap) (bs ++ mark)) ∧ Below w.heap.size w w' := by
  have hb := (Below.refl w.heap.size w).alloc (Nat.le_refl _) (.cells #[] 5)
  have H := (show Hid _ from h.step hb)
  have HO := (show Hid _ from pk.own_made w)
  have HB := (show Hid _ from hb)
  obtain ⟨hby, a, c, rfl, hlc, hc9, hno, hx⟩ := h
  clear hb hby hno hx
  obtain ⟨L, hL⟩ : ∃ L, L = bs.length := ⟨_, rfl⟩
  have HL : Hid (L = bs.length) := hL
  rw [← hL] at hl hlc H ⊢
  clear hL
  go_enter Try.func28, Try.ntmps28
  go_wp2_with (first
    | (at_builtin; refine appB rfl _ _ rfl w.heap.size [] bs _ _ (by rfl) (by rfl) HO.out H.out (by simp) (by have := HL.out; simp; omega) ?_; intro v' w1 ho hb1; rw [List.nil_append] at ho; have HO1 := (show Hid _ from ho); have HB1 := (show Hid _ from HB.out.trans hb1); clear ho hb1 HO H HB)
    | (at_builtin; refine appB rfl _ _ rfl w.heap.size bs mark _ _ (by rfl) (by rfl) (HO1.out.alloc _) (bs_new w1 mark (fun x hx => by simp [mark] at hx; omega) 3 rfl (by omega) 5) (by have := HB1.out.size; simp; omega) (by have := HL.out; simp [mark]; omega) ?_; intro v2 w2 ho hb2; obtain ⟨g, cap, rfl, hg3, hg4⟩ := head3 ho; rw [← HL.out] at ho hg3 ⊢; have HO2 := (show Hid _ from ho); have HB2 := (show Hid _ from (HB1.out.alloc HB1.out.size _).trans hb2); clear ho hb2 HO1 HB1))
  refine bodyPost_ret (v := .tuple #[.slice (some ⟨g, 0, none⟩) L cap, .slice (some ⟨g, 0, none⟩) (L + 3) cap]) (by simp [results, Try.results28, go_sem]) rfl ?_
  exact ⟨⟨g, cap, rfl, HO2.out⟩, HB2.out⟩
theorem bt_mark (bs : List Nat) (j : Nat) (hj : j < 3) : bt (bs ++ mark) (bs.length + j) = ((mark.getD j 0 : Nat) : Int) := by
  unfold bt
  simp [List.getD, List.getElem?_append_right (show bs.length ≤ bs.length + j by omega)]
theorem kept_ok (v u : Value) (bs : List Nat) (w : World) (h : Bs w v (bs ++ mark)) (hu : Bs w u bs) :
    Calls Try.prog 29 #[v, u] w fun e w' => e = .returned (.bool true) ∧ Below w.heap.size w w' := by
  have H := (show Hid _ from h)
  have HU := (show Hid _ from hu)
  obtain ⟨hby, a, c, rfl, hlc, hc9, hno, hx⟩ := h
  obtain ⟨hby2, a2, c2, rfl, hlc2, hc92, hno2, hx2⟩ := hu
  clear hby hno hby2 hno2 hx2
  have hl3 : (bs ++ mark).length = bs.length + 3 := by simp [mark]
  obtain ⟨b, off, rfl, hb, hcell⟩ := hx (by omega)
  rw [hl3] at hlc H hcell ⊢
  have m0 := (hcell (bs.length + 0) (by omega)).trans (by rw [bt_mark bs 0 (by omega)])
  have m1 := (hcell (bs.length + 1) (by omega)).trans (by rw [bt_mark bs 1 (by omega)])
  have m2 := (hcell (bs.length + 2) (by omega)).trans (by rw [bt_mark bs 2 (by omega)])
  clear hcell hx hl3
  have C := (show Hid _ from H.out.cut bs.length (by simp))
  rw [List.take_left] at C
  obtain ⟨L, hL⟩ : ∃ L, L = bs.length := ⟨_, rfl⟩
  rw [← hL] at hlc hlc2 C HU m0 m1 m2 ⊢
  simp only [mark, List.getD_cons_zero, List.getD_cons_succ, Nat.add_zero] at m0 m1 m2
  have i1 : L ≤ c := by omega
  have i2 : (0 : Int) ≤ (L : Int) := by omega
  clear hL H
  go_enter Try.func29, Try.ntmps29
  go_wp2_with fail
  refine (same_ok _ _ bs bs _ C.out HU.out).mono ?_
  rintro e w1 ⟨rfl, hb1⟩
  rw [show decide (bs = bs) = true by simp]
  have n0 := (hb1.cell (p := ⟨b, off + L, none⟩) hb).trans m0
  have n1 := (hb1.cell (p := ⟨b, off + (L + 1), none⟩) hb).trans m1
  have n2 := (hb1.cell (p := ⟨b, off + (L + 2), none⟩) hb).trans m2
  have G := (show Hid _ from hb1)
  clear hb1 m0 m1 m2 C HU
  go_wp2_with fail
  go_ret
  exact ⟨rfl, G.out⟩
/-- a block whose first n cells are bytes -/
def Fl (w : World) (g n : Nat) : Prop := ∃ cs, w.heap[g]? = some (.cells cs 5 (0, 0)) ∧ ∀ i, i < n → ∃ a : Int, cs[i]? = some (.int .u8 a)
theorem Fl.cell {w : World} {g n : Nat} (h : Fl w g n) (i : Nat) (hi : i < n) : ∃ a : Int, w.cell? ⟨g, i, none⟩ = some (.int .u8 a) := by
  obtain ⟨cs, h1, h2⟩ := h
  obtain ⟨a, ha⟩ := h2 i hi
  refine ⟨a, ?_⟩
  have hv : VA w g cs.toList 5 := ⟨by simpa using h1⟩
  exact hv.cell i (by simpa using ha)
theorem Fl.free {w : World} {g n : Nat} (h : Fl w g n) (i : Nat) : w.frozen? ⟨g, i, none⟩ = false := by
  obtain ⟨cs, h1, _⟩ := h
  have hv : VA w g cs.toList 5 := ⟨by simpa using h1⟩
  exact hv.free i
theorem Fl.set {w : World} {g n : Nat} (h : Fl w g n) (k : Nat) (b : Int) : Fl (w.setCell ⟨g, k, none⟩ (.int .u8 b)) g n := by
  obtain ⟨cs, h1, h2⟩ := h
  refine ⟨cs.setIfInBounds k (.int .u8 b), heap_setCell_same w g k cs _ _ h1, fun i hi => ?_⟩
  obtain ⟨a, ha⟩ := h2 i hi
  by_cases e : k = i
  · subst e
    refine ⟨b, ?_⟩
    rw [Array.getElem?_setIfInBounds]
    obtain ⟨hs, _⟩ := Array.getElem?_eq_some_iff.1 ha
    simp [hs]
  · refine ⟨a, ?_⟩
    rw [Array.getElem?_setIfInBounds, if_neg e]
    exact ha
theorem pk.OwnB.fl {w : World} {B g n cap : Nat} {cs : List Nat} (h : OwnB w B (.slice (some ⟨g, 0, none⟩) n cap) cs) : Fl w g n := by
  rcases h.own.2 with ⟨e, _⟩ | ⟨g', cap', cur, e, hb, hg, hc1, hc2, hsz, htk⟩
  · cases e
  · cases e
    refine ⟨cur, hg, fun i hi => ?_⟩
    have h1 : (cur.toList.take (cs.length * 1))[i]? = (cl cs)[i]? := by rw [htk]
    rw [List.getElem?_take_of_lt (by omega)] at h1
    refine ⟨((cs.getD i 0 : Nat) : Int), ?_⟩
    have h2 : (cl cs)[i]? = some (.int .u8 ((cs.getD i 0 : Nat) : Int)) := by
      unfold cl
      rw [List.getElem?_map, List.getElem?_eq_getElem hi]
      simp [List.getD_eq_getElem?_getD, hi]
    rw [h2] at h1
    simpa using h1
end Go.Proofs.Ytakgkpiicigihaa
