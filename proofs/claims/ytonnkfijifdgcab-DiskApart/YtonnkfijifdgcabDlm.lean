/- disk XXXVIII: the walk of DiskApart. -/
import Derived.Test.YtonnkfijifdgcabDlj
import Derived.Deep.DeepCutAuto
import Derived.Deep.CutBlock
namespace Go.Proofs.Ytonnkfijifdgcab
open Go.RowKit Go.Maps Go.Sort Go.Shelf pk
set_option linter.unusedVariables false
set_option linter.unusedSimpArgs false

theorem Bl.step {w w' : World} {v : Value} {ks : List Bool} (h : Bl w v ks) (k : Below w.heap.size w w') : Bl w' v ks := (h.sl.step k).bl
theorem OpIn.step {w w' : World} {o : OpD} (h : OpIn w o) (k : Below w.heap.size w w') : OpIn w' o := ⟨h.k, h.p.step k, h.f.step k, h.no, h.n⟩
theorem infoO7 : (Try.prog.info? 37).map (·.size) = some 7 := by kernel_rfl
/-- the file z9 has just these sectors; so many sectors at most -/
def ZA (fs : FS) (zs : List (List Nat)) (N : Nat) : Prop := (∃ sy, lk fs [122, 57] = some ([122, 57], zs, sy)) ∧ totA fs ≤ N
theorem tot_filter_le (fs : FS) (P : List UInt8 × List (List Nat) × Nat → Bool) : totA (fs.filter P) ≤ totA fs := by
  induction fs with
  | nil => exact Nat.le_refl _
  | cons e es ih =>
    rw [List.filter_cons]
    split <;> simp only [totA] <;> omega
theorem tot_app' (a b : FS) : totA (a ++ b) = totA a + totA b := by
  induction a with
  | nil => simp [totA]
  | cons e a ih => simp [totA, ih]; omega
theorem lk_filter (fs : FS) (P : List UInt8 → Bool) (l : List UInt8) (h : P l = true) : lk (fs.filter (fun t => P t.1)) l = lk fs l := by
  unfold lk
  induction fs with
  | nil => rfl
  | cons t fs ih =>
    by_cases h1 : P t.1 = true
    · rw [List.filter_cons_of_pos (by simpa using h1), List.find?_cons, List.find?_cons, ih]
    · rw [List.filter_cons_of_neg (by simpa using h1), List.find?_cons, show (t.1 == l) = false by rw [beq_eq_false_iff_ne]; exact fun e => h1 (by rw [e]; exact h), ih]
theorem tot_split {fs : FS} {l : List UInt8} {t : List UInt8 × List (List Nat) × Nat} (h : lk fs l = some t) (P : List UInt8 → Bool) (hP : P l = false) : totA (fs.filter (fun u => P u.1)) + t.2.1.length ≤ totA fs := by
  unfold lk at h
  obtain ⟨h1, l1, l2, h2, h3⟩ := List.find?_eq_some_iff_append.1 h
  have hn : t.1 = l := by simpa using h1
  rw [h2, List.filter_append, List.filter_cons_of_neg (by rw [hn, hP]; simp), tot_app', tot_app']
  have := tot_filter_le l1 (fun u => P u.1)
  have := tot_filter_le l2 (fun u => P u.1)
  simp only [totA]
  omega
theorem doOp_za {fs : FS} {zs : List (List Nat)} {N : Nat} (h : ZA fs zs N) (o : POp) (ha : o.a ≠ [122, 57]) (hb : o.b ≠ [122, 57]) (hs : (lk fs o.a).isSome = true) : ZA (doOp o fs) zs N := by
  obtain ⟨⟨sy, hz⟩, ht⟩ := h
  unfold doOp
  split
  · refine ⟨⟨sy, ?_⟩, Nat.le_trans (tot_map_le _ _ (fun t => by split <;> simp)) ht⟩
    rw [lk_map _ _ (fun t => by split <;> rfl), hz]
    simp only [Option.map_some]
    rw [if_neg (fun e => ha e.symm)]
  · split
    · refine ⟨⟨sy, ?_⟩, Nat.le_trans (tot_map_le _ _ (fun t => by split <;> simp; omega)) ht⟩
      rw [lk_map _ _ (fun t => by split <;> rfl), hz]
      simp only [Option.map_some]
      rw [if_neg (fun e => ha e.symm)]
    · split
      · obtain ⟨t, htt⟩ := Option.isSome_iff_exists.1 hs
        rw [htt]
        refine ⟨⟨sy, ?_⟩, ?_⟩
        · show lk (fs.filter _ ++ [_]) _ = _
          have e := lk_filter fs (fun l => decide (l ≠ o.a ∧ l ≠ o.b)) [122, 57] (by simp; exact ⟨fun e => ha e.symm, fun e => hb e.symm⟩)
          unfold lk at e hz ⊢
          rw [List.find?_append, e, hz]
          rfl
        · have := tot_split htt (fun l => decide (l ≠ o.a ∧ l ≠ o.b)) (by simp)
          show totA (fs.filter _ ++ [_]) ≤ N
          rw [tot_app']
          simp only [totA]
          omega
      · refine ⟨⟨sy, ?_⟩, Nat.le_trans (tot_filter_le _ _) ht⟩
        rw [lk_filter fs (fun l => decide (l ≠ o.a)) [122, 57] (by simp; exact fun e => ha e.symm), hz]
theorem oper_za {n k : Nat} {fs : FS} {zs : List (List Nat)} (h : ZA fs zs (16 * k)) (hk : k ≤ 61) (o : POp) (ha : o.a ≠ [122, 57]) (hb : o.b ≠ [122, 57]) :
    ∃ n' fs', (oper ⟨60000, n, 0, true, none, fs⟩ o).2 = ⟨60000, n', 0, true, none, fs'⟩ ∧ n' ≤ n + 1 ∧ ZA fs' zs (16 * (k + 1)) := by
  unfold oper
  split
  · exact ⟨n, fs, rfl, by omega, h.1, by have := h.2; omega⟩
  · split
    · exact ⟨n, fs, rfl, by omega, h.1, by have := h.2; omega⟩
    · split
      · exact ⟨n, fs, rfl, by omega, h.1, by have := h.2; omega⟩
      · rename_i h2 _
        have hs : (lk fs o.a).isSome = true := by
          cases hh : lk fs o.a with
          | none => exact absurd (by show (lk fs o.a).isNone = true; rw [hh]; rfl) h2
          | some t => rfl
        have h3 := doOp_za h o ha hb hs
        split
        · exact ⟨n + 1, doOp o fs, rfl, by omega, h3.1, by have := h3.2; omega⟩
        · rename_i h4
          exact absurd (by rfl) h4
theorem apnd_za {n k : Nat} {fs : FS} {zs : List (List Nat)} (h : ZA fs zs (16 * k)) (hk : k ≤ 61) (l : List UInt8) (ha : l ≠ [122, 57]) (bs : List Nat) (hbs : bs.length ≤ 500) :
    ∃ n' fs', (apnd ⟨60000, n, 0, true, none, fs⟩ l bs).2 = ⟨60000, n', 0, true, none, fs'⟩ ∧ n' ≤ n + 1 ∧ ZA fs' zs (16 * (k + 1)) := by
  unfold apnd
  split
  · exact ⟨n, fs, rfl, by omega, h.1, by have := h.2; omega⟩
  · split
    · exact ⟨n, fs, rfl, by omega, h.1, by have := h.2; omega⟩
    · split
      · exact ⟨n, fs, rfl, by omega, h.1, by have := h.2; omega⟩
      · refine ⟨n + 1, apd fs l (parts bs), rfl, by omega, ?_, ?_⟩
        · obtain ⟨sy, hz⟩ := h.1
          exact ⟨sy, by rw [lk_apd_other _ _ _ _ (fun e => ha e.symm), hz]⟩
        · rw [tot_apd, parts_len]
          have := h.2
          unfold cnt
          omega
theorem trunc_neg (w : World) (B p m : Nat) (x : AD) (h : DA w B p m x) (s : ByteArray) (n : Int) (hn : n < 0) :
    Calls Try.prog 10 #[ptr p, .string s, .int .i64 n] w fun r w' => r = .returned (.int .i64 1) ∧ Lv w w' B p m x := by
  have HDA : Hid (DA w B p m x) := h
  clear h
  have hp : (ptr p) = .pointer (some ⟨p, 0, none⟩) := rfl
  rw [hp]
  go_enter Try.func10, Try.ntmps10
  go_wp2_with fail
  go_ret
  exact ⟨rfl, Lv.step HDA.out ((Below.refl _ _).alloc (Nat.le_refl _) _)⟩
theorem z9_ne {a : ByteArray} (h : ¬ a.toList = [122, 57]) : a.data.toList ≠ [122, 57] := fun e => h (by rw [ByteArray.toList_eq]; exact e)
set_option maxRecDepth 100000 in
set_option maxHeartbeats 8000000 in
theorem apart_walk (v : Value) (os : List OpD) (u : Value) (cs : List Nat) (w : World) (hb : Sl KO w v os) (hos : ∀ o ∈ os, OpIn w o ∧ OpSz 140737488351232 o) (hl : os.length ≤ 140737488351232) (hu : Bs w u cs) (hl2 : cs.length ≤ 140737488351232) :
    Calls Try.prog 3 #[v, u] w fun e w' => e = .returned (.bool true) ∧ Below w.heap.size w w' := by
  have HSL := (show Hid _ from hb)
  have HOS : Hid (∀ o ∈ os, OpIn w o ∧ OpSz 140737488351232 o) := hos
  have HQ := (show Hid _ from hu)
  obtain ⟨oa, oc, rfl, hoc1, hoc2, _⟩ := hb.form
  obtain ⟨hby2, a', c', rfl, hc1', hc2', hno2, hli'⟩ := hu
  clear hb hos hno2 hli' hby2
  generalize hN : os.length = N at *
  have HN := (show Hid _ from hN)
  clear hN
  generalize hML : cs.length = len' at *
  have HML := (show Hid _ from hML)
  clear hML
  obtain ⟨M, hM⟩ : ∃ M, M = min len' 200 := ⟨_, rfl⟩
  have hmin2 : ∀ w', (Builtin.min_ #[3, 3] 3 #[.int .i64 (len' : Int), .int .i64 200]).run Try.prog w' = .ok (.int .i64 (M : Int)) w' := fun w' => cut_min w' len' 200 M (by omega) hM
  have d1 : (M : Int) ≤ (len' : Int) := by omega
  have d2 : (M : Int) ≤ (c' : Int) := by omega
  have d3 : M ≤ 200 := by omega
  have HYP : Hid (∀ w', Below w.heap.size w w' → Bs w' (.slice a' M c') (cs.take M)) := fun w' h => (HQ.out.step h).cut M (by rw [HML.out]; omega)
  have HYL : Hid ((cs.take M).length = M) := (show (cs.take M).length = M by rw [List.length_take, HML.out]; omega)
  generalize hys : cs.take M = ys at HYP HYL
  clear hys hM
  go_enter Try.func3, Try.ntmps3
  go_wp2_with (go_at_call 4; refine (awake_ok _).mono ?_; rintro e w1 ⟨rfl, b1⟩)
  have HB1 : Hid (Below w.heap.size w w1) := b1
  have HSW : Hid (w.heap.size ≤ w1.heap.size) := HB1.out.size
  clear b1 hmin2
  refine (new_any 60000 w1 (by omega) (by omega)).mono ?_
  rintro e w2 ⟨p, m, rfl, hA2, b2⟩
  have HA2 : Hid (DA w2 w1.heap.size p m ⟨60000, 0, 0, true, none, []⟩) := hA2
  have HB2 : Hid (Below w1.heap.size w1 w2) := b2
  have HALL : Hid (∀ w', Below w1.heap.size w2 w' → Below w.heap.size w w') := fun w' h => HB1.out.trans ((HB2.out.trans h).mono HSW.out)
  clear hA2 b2
  generalize w1.heap.size = B at *
  have HBW2 : Hid (B ≤ w2.heap.size) := HA2.out.lt
  unfold ptr
  go_wp2_with fail
  refine (twin_ok _ ys w2 (HYP.out w2 (HALL.out w2 (Below.refl _ _))) (by rw [HYL.out]; omega)).mono ?_
  rintro e w3 ⟨⟨u3, rfl, O3⟩, b3⟩
  have HA3 : Hid (DA w3 B p m ⟨60000, 0, 0, true, none, []⟩) := HA2.out.step b3
  have HO3 := (show Hid _ from O3)
  have HB3 : Hid (Below B w2 w3) := b3.mono HBW2.out
  have hcy : cnt M ≤ 7 := by unfold cnt; omega
  have E3 := (show Hid _ from show apnd ⟨60000, 0, 0, true, none, []⟩ [122, 57] ys = (0, ⟨60000, 1, 0, true, none, [([122, 57], parts ys, 0)]⟩) from apnd_idle rfl (fitA_of (.inr (by decide)) (by rw [HYL.out]; simp [totA]; omega)))
  clear O3 b3
  go_wp2_with fail
  refine (append_any w3 B p m _ HA3.out ⟨#[122, 57]⟩ (by decide) u3 ys HO3.out.bs HO3.out.safe (by rw [HYL.out]; omega) (by dsimp only; omega) (by dsimp only; omega)).mono ?_
  rintro e w4 ⟨he, h4⟩
  rw [show (⟨#[122, 57]⟩ : ByteArray).data.toList = [122, 57] from rfl, E3.out] at he h4
  obtain rfl : e = .returned (.int .i64 0) := he
  have HA4 : Hid (DA w4 B p m ⟨60000, 1, 0, true, none, [([122, 57], parts ys, 0)]⟩) := h4.1
  have HB4 : Hid (Below B w2 w4) := HB3.out.trans h4.2.2
  have E4 := (show Hid _ from show seen ⟨60000, 1, 0, true, none, [([122, 57], parts ys, 0)]⟩ [122, 57] = (0, parts ys) from seen_on (t := ([122, 57], parts ys, 0)) rfl rfl rfl)
  clear h4 E3 HO3
  go_wp2_with fail
  refine (read_any w4 B p m _ HA4.out ⟨#[122, 57]⟩ (by decide)).mono ?_
  rintro e w5 ⟨⟨u5, he, O5⟩, b5⟩
  rw [show (⟨#[122, 57]⟩ : ByteArray).data.toList = [122, 57] from rfl, E4.out] at he O5
  obtain rfl : e = .returned (.tuple #[u5, .int .i64 0]) := he
  have HA5 : Hid (DA w5 B p m ⟨60000, 1, 0, true, none, [([122, 57], parts ys, 0)]⟩) := HA4.out.step b5
  have HB5 : Hid (Below B w2 w5) := HB4.out.trans (b5.mono HA4.out.lt)
  have HO5 : Hid (OwnB w5 w4.heap.size u5 (flat (parts ys))) := O5
  obtain ⟨_, a5, c5, hu5, hc51, hc52, _⟩ := O5.bs
  generalize (flat (parts ys)).length = n5 at hu5
  subst hu5
  have HZ5 : Hid (ZA [([122, 57], parts ys, 0)] (parts ys) 16) := ⟨⟨0, rfl⟩, by simp only [totA, parts_len, HYL.out]; omega⟩
  generalize parts ys = zs at *
  clear O5 b5 E4 hc51
  go_upto_block 0 with fail
  go_cut [] (fun wx => ∃ (n : Nat) (fs : FS), n ≤ 100 ∧ Hid (DA wx B p m ⟨60000, n, 0, true, none, fs⟩) ∧ Hid (ZA fs zs 60000) ∧ Hid (Below B w2 wx) ∧ Hid (Kee w5 wx))
  case first =>
    go_wp2_with fail
    go_loopw [42] (fun i wr => ∃ (k n : Nat) (fs : FS), k ≤ N ∧ k ≤ 60 ∧ n ≤ k + 1 ∧ i = .int .i64 (k : Int) ∧ Hid (DA wr B p m ⟨60000, n, 0, true, none, fs⟩) ∧ Hid (ZA fs zs (16 * (k + 1))) ∧ Hid (Below B w2 wr) ∧ Hid (Kee w5 wr)) (fun i _ => N - (intOf i).toNat)
    case atStart => exact ⟨0, 1, [([122, 57], zs, 0)], Nat.zero_le _, Nat.zero_le _, Nat.le_refl _, rfl, HA5.out, HZ5.out, HB5.out, Kee.refl _⟩
    case round =>
      obtain ⟨k, n, fs, hk, hk60, hnk, rfl, HA, HZA, HBE, HW⟩ := hrel
      by_cases hlt : k < N
      · have dk : (k : Int) < (N : Int) := by omega
        obtain ⟨o, ho⟩ : ∃ o, os[k]? = some o := ⟨_, List.getElem?_eq_getElem (by rw [HN.out]; exact hlt)⟩
        obtain ⟨b, off, rfl, hbl, hcell⟩ := (HSL.out.step (HALL.out wr HBE.out)).at k o ho
        have HCL : Hid (∀ j u, o.cells[j]? = some u → wr.cell? ⟨b, off + k * 7 + j, none⟩ = some u) := hcell
        have hmem := List.mem_of_getElem? ho
        have HOI : Hid (∀ w', Below B w2 w' → OpIn w' o) := fun w' h => ((HOS.out o hmem).1).step (HALL.out w' h)
        have hsz := (HOS.out o hmem).2
        have hk256 := (HOI.out wr HBE.out).k
        have hnn := (HOI.out wr HBE.out).n
        obtain ⟨_, _, _, hpe, hp1, hp2, _⟩ := (HOI.out wr HBE.out).p
        cases hpe
        have hsz1 := hsz.1
        have hsa := hsz.2.2.1
        have hsb := hsz.2.2.2
        clear hcell hmem ho hsz
        obtain ⟨ok, oaa, obb, opa, opc, obs, on, odn, oka, okc, oks⟩ := o
        dsimp only at hk256 hp1 hp2 hsz1 hnn hsa hsb
        obtain ⟨L, hL⟩ : ∃ L, L = min obs.length 500 := ⟨_, rfl⟩
        have HXP : Hid (∀ w', Below B w2 w' → Bs w' (.slice opa L opc) (obs.take L)) := fun w' h => ((HOI.out w' h).p).cut L (by show L ≤ obs.length; omega)
        have HXL : Hid ((obs.take L).length = L) := (show (obs.take L).length = L by rw [List.length_take]; omega)
        generalize hxs : obs.take L = xs at HXP HXL
        clear hxs
        unfold OpD.cells at HCL
        dsimp only at HCL
        generalize hln : obs.length = ln at *
        generalize hkn : oks.length = kn at *
        have hmin : ∀ w', (Builtin.min_ #[3, 3] 3 #[.int .i64 (ln : Int), .int .i64 500]).run Try.prog w' = .ok (.int .i64 (L : Int)) w' := fun w' => cut_min w' ln 500 L (by omega) hL
        have e1 : (L : Int) ≤ (ln : Int) := by omega
        have e2 : (L : Int) ≤ (opc : Int) := by omega
        have e3 : L ≤ 500 := by omega
        clear hln hkn hL
        by_cases h60 : 60 ≤ k
        · have d60 : (60 : Int) ≤ (k : Int) := by omega
          go_wp2_with (refine wpList_load_mid rfl 37 _ rfl b (off + k * 7) (by rfl) _ _ HCL.out Try.underlying37 rfl infoO7 ?_)
          go_meet
          have b7 := (Below.refl wr.heap.size wr).alloc (Nat.le_refl _) (.cells #[.int .u8 (ok : Int), .string oaa, .string obb, .slice opa ln opc, .int .i64 on, .bool odn, .slice oka kn okc] 37)
          exact ⟨n, fs, by omega, HA.out.step b7, ⟨HZA.out.1, Nat.le_trans HZA.out.2 (by omega)⟩, HBE.out.trans (b7.mono HA.out.lt), HW.out.trans (Kee.bel b7)⟩
        · have d60 : (k : Int) < 60 := by omega
          have hskip : ∀ (x : Nat), Hid (DA (wr.alloc (.cells #[.int .u8 (ok : Int), .string oaa, .string obb, .slice opa x opc, .int .i64 on, .bool odn, .slice oka kn okc] 37)) B p m ⟨60000, n, 0, true, none, fs⟩ ∧ Below B w2 (wr.alloc (.cells #[.int .u8 (ok : Int), .string oaa, .string obb, .slice opa x opc, .int .i64 on, .bool odn, .slice oka kn okc] 37)) ∧ Kee w5 (wr.alloc (.cells #[.int .u8 (ok : Int), .string oaa, .string obb, .slice opa x opc, .int .i64 on, .bool odn, .slice oka kn okc] 37))) := fun x => by
            have b7 := (Below.refl wr.heap.size wr).alloc (Nat.le_refl _) (.cells #[.int .u8 (ok : Int), .string oaa, .string obb, .slice opa x opc, .int .i64 on, .bool odn, .slice oka kn okc] 37)
            exact ⟨HA.out.step b7, HBE.out.trans (b7.mono HA.out.lt), HW.out.trans (Kee.bel b7)⟩
          by_cases ha : oaa.toList = [122, 57]
          · have dA1 : (oaa.toList == [122, 57]) = true := by simp [ha]
            have HS := hskip ln
            clear hskip
            go_wp2_with (refine wpList_load_mid rfl 37 _ rfl b (off + k * 7) (by rfl) _ _ HCL.out Try.underlying37 rfl infoO7 ?_)
            go_roundw
            case rel => exact ⟨k + 1, n, fs, by omega, by omega, by omega, by simp, HS.out.1, ⟨HZA.out.1, Nat.le_trans HZA.out.2 (by omega)⟩, HS.out.2.1, HS.out.2.2⟩
            case measure => simp [intOf]; omega
          · have HNA : Hid (oaa.data.toList ≠ [122, 57]) := z9_ne ha
            have dA1 : (oaa.toList == [122, 57]) = false := beq_eq_false_iff_ne.2 ha
            by_cases hbb : obb.toList = [122, 57]
            · have dB1 : (obb.toList == [122, 57]) = true := by simp [hbb]
              have HS := hskip ln
              clear hskip
              go_wp2_with (refine wpList_load_mid rfl 37 _ rfl b (off + k * 7) (by rfl) _ _ HCL.out Try.underlying37 rfl infoO7 ?_)
              go_roundw
              case rel => exact ⟨k + 1, n, fs, by omega, by omega, by omega, by simp, HS.out.1, ⟨HZA.out.1, Nat.le_trans HZA.out.2 (by omega)⟩, HS.out.2.1, HS.out.2.2⟩
              case measure => simp [intOf]; omega
            · have HNB : Hid (obb.data.toList ≠ [122, 57]) := z9_ne hbb
              have dB1 : (obb.toList == [122, 57]) = false := beq_eq_false_iff_ne.2 hbb
              have HS := hskip L
              clear hskip
              have HA7 : Hid (DA (wr.alloc (.cells #[.int .u8 (ok : Int), .string oaa, .string obb, .slice opa L opc, .int .i64 on, .bool odn, .slice oka kn okc] 37)) B p m ⟨60000, n, 0, true, none, fs⟩) := HS.out.1
              have HB7 : Hid (Below B w2 (wr.alloc (.cells #[.int .u8 (ok : Int), .string oaa, .string obb, .slice opa L opc, .int .i64 on, .bool odn, .slice oka kn okc] 37))) := HS.out.2.1
              have HW7 : Hid (Kee w5 (wr.alloc (.cells #[.int .u8 (ok : Int), .string oaa, .string obb, .slice opa L opc, .int .i64 on, .bool odn, .slice oka kn okc] 37))) := HS.out.2.2
              clear HS
              rcases (by omega : ok % 5 = 0 ∨ ok % 5 = 1 ∨ ok % 5 = 2 ∨ ok % 5 = 3 ∨ ok % 5 = 4) with hm | hm | hm | hm | hm
              · have dm : (ok : Int) % 5 = 0 := by omega
                go_wp2_with (refine wpList_load_mid rfl 37 _ rfl b (off + k * 7) (by rfl) _ _ HCL.out Try.underlying37 rfl infoO7 ?_)
                have HV7 : Hid (VA (wr.alloc (.cells #[.int .u8 (ok : Int), .string oaa, .string obb, .slice opa L opc, .int .i64 on, .bool odn, .slice oka kn okc] 37)) wr.heap.size [.int .u8 (ok : Int), .string oaa, .string obb, .slice opa L opc, .int .i64 on, .bool odn, .slice oka kn okc] 37) := va_new wr _ _
                have E : Hid (∃ n' fs', (apnd ⟨60000, n, 0, true, none, fs⟩ oaa.data.toList xs).2 = ⟨60000, n', 0, true, none, fs'⟩ ∧ n' ≤ n + 1 ∧ ZA fs' zs (16 * (k + 1 + 1))) := apnd_za (k := k + 1) HZA.out (by omega) _ HNA.out xs (by rw [HXL.out]; exact e3)
                generalize (wr.alloc (.cells #[.int .u8 (ok : Int), .string oaa, .string obb, .slice opa L opc, .int .i64 on, .bool odn, .slice oka kn okc] 37)) = w7 at *
                refine wp_region_noPanic ?_
                refine wp_region_held_drew (S := fun V => VA V wr.heap.size [.int .u8 (ok : Int), .string oaa, .string obb, .slice opa L opc, .int .i64 on, .bool odn, .slice oka kn okc] 37) (by kernel_rfl) HV7.out.drew ?_
                intro hHeld
                have b0 : Below w7.heap.size w7 w7.drew := (Below.refl _ _).drew
                generalize w7.drew = w8 at *
                refine takeD 0 70 (.pointer (some ⟨p, 0, none⟩)) (by exact rfl) rfl (by kernel_rfl) (by kernel_rfl) (by kernel_rfl) (fun _ _ _ h => h) (Or.inl ⟨by rfl, ?_⟩) (by assumption) ?_
                · intro wq hS
                  go_simp
                try simp only [Act.put, List.setIfInBounds_toArray, List.set_cons_zero, List.set_cons_succ]
                refine takeD 1 71 (.pointer (some ⟨wr.heap.size, 1, none⟩)) (by exact rfl) rfl (by kernel_rfl) (by kernel_rfl) (by kernel_rfl) (fun _ _ _ h => h) (Or.inl ⟨by rfl, ?_⟩) (by assumption) ?_
                · intro wq hS
                  go_simp
                try simp only [Act.put, List.setIfInBounds_toArray, List.set_cons_zero, List.set_cons_succ]
                refine takeD 2 72 (.string oaa) (by exact rfl) rfl (by kernel_rfl) (by kernel_rfl) (by kernel_rfl) (fun _ _ _ h => h) (Or.inl ⟨by rfl, ?_⟩) (by assumption) ?_
                · intro wq hS
                  have c := hS.cell 1 (v := .string oaa) rfl
                  go_simp
                try simp only [Act.put, List.setIfInBounds_toArray, List.set_cons_zero, List.set_cons_succ]
                refine takeD 3 73 (.pointer (some ⟨wr.heap.size, 3, none⟩)) (by exact rfl) rfl (by kernel_rfl) (by kernel_rfl) (by kernel_rfl) (fun _ _ _ h => h) (Or.inl ⟨by rfl, ?_⟩) (by assumption) ?_
                · intro wq hS
                  go_simp
                try simp only [Act.put, List.setIfInBounds_toArray, List.set_cons_zero, List.set_cons_succ]
                refine takeD 4 74 (.slice opa L opc) (by exact rfl) rfl (by kernel_rfl) (by kernel_rfl) (by kernel_rfl) (fun _ _ _ h => h) (Or.inl ⟨by rfl, ?_⟩) (by assumption) ?_
                · intro wq hS
                  have c := hS.cell 3 (v := .slice opa L opc) rfl
                  go_simp
                try simp only [Act.put, List.setIfInBounds_toArray, List.set_cons_zero, List.set_cons_succ]
                refine wpAnyH_ready (rs := [5]) (by kernel_rfl) (by simp) ?_
                refine AllReadyH.cons (by exact rfl) (fun K hK => ?_) AllReadyH.nil
                go_simp
                refine (twin_ok _ xs w8 (HXP.out _ (HB7.out.trans (b0.mono HA7.out.lt))) (by rw [HXL.out]; omega)).mono ?_
                rintro e w8b ⟨⟨u8, rfl, O8⟩, b8⟩
                go_wp2_with fail
                refine hK.out _ _ (hHeld.step b8) (fun hHeld2 => ?_)
                clear hK K
                try simp only [Act.put, List.setIfInBounds_toArray, List.set_cons_zero, List.set_cons_succ]
                have b08 : Below w7.heap.size w7 w8b := b0.trans (b8.mono b0.size)
                have HA8 : Hid (DA w8b B p m ⟨60000, n, 0, true, none, fs⟩) := HA7.out.step b08
                have HB8 : Hid (Below B w2 w8b) := HB7.out.trans (b08.mono HA7.out.lt)
                have HW8 : Hid (Kee w5 w8b) := HW7.out.trans (Kee.bel b08)
                refine wpAnyH_ready (rs := [6]) (by kernel_rfl) (by simp) ?_
                refine AllReadyH.cons (by exact rfl) (fun K hK => ?_) AllReadyH.nil
                go_simp
                refine (append_any w8b B p m _ HA8.out oaa (by omega) u8 xs O8.bs O8.safe (by rw [HXL.out]; omega) (by dsimp only; omega) (by dsimp only; omega)).mono ?_
                rintro e w9 ⟨he, h9⟩
                generalize (apnd ⟨60000, n, 0, true, none, fs⟩ oaa.data.toList xs) = r9 at he h9 E
                subst he
                go_wp2_with fail
                refine hK.out _ _ (hHeld2.kee h9.2.1 (by unfold Dt; decide)) (fun hHeld3 => ?_)
                clear hK K
                refine wpAnyH_done (by kernel_rfl) ?_ _
                refine NoPanic.normal ?_
                have HA9 : Hid (∃ n' fs', n' ≤ n + 1 ∧ DA w9 B p m ⟨60000, n', 0, true, none, fs'⟩ ∧ ZA fs' zs (16 * (k + 1 + 1))) := by
                  obtain ⟨n', fs', e1, e2, e3⟩ := E.out
                  rw [e1] at h9
                  exact ⟨n', fs', e2, h9.1, e3⟩
                have HB9 : Hid (Below B w2 w9) := HB8.out.trans h9.2.2
                have HW9 : Hid (Kee w5 w9) := HW8.out.trans h9.2.1
                clear h9 hHeld hHeld2 hHeld3 O8 b8 b0 b08
                go_wp2_with fail
                go_roundw
                case rel =>
                  obtain ⟨n', fs', e2, h1, h2⟩ := HA9.out
                  exact ⟨k + 1, n', fs', by omega, by omega, by omega, by simp, h1, h2, HB9.out, HW9.out⟩
                case measure => simp [intOf]; omega
              · have dm : (ok : Int) % 5 = 1 := by omega
                go_wp2_with (refine wpList_load_mid rfl 37 _ rfl b (off + k * 7) (by rfl) _ _ HCL.out Try.underlying37 rfl infoO7 ?_)
                have E : Hid (∃ n' fs', (oper ⟨60000, n, 0, true, none, fs⟩ ⟨1, oaa.data.toList, [], 0⟩).2 = ⟨60000, n', 0, true, none, fs'⟩ ∧ n' ≤ n + 1 ∧ ZA fs' zs (16 * (k + 1 + 1))) := oper_za (k := k + 1) HZA.out (by omega) _ HNA.out (by simp)
                refine (sync_any _ B p m _ HA7.out oaa (by omega) (by dsimp only; omega) (by dsimp only; omega)).mono ?_
                rintro e w9 ⟨he, h9⟩
                have HB8 := HB7
                have HW8 := HW7
                generalize (oper ⟨60000, n, 0, true, none, fs⟩ ⟨1, oaa.data.toList, [], 0⟩) = r9 at he h9 E
                subst he
                have HA9 : Hid (∃ n' fs', n' ≤ n + 1 ∧ DA w9 B p m ⟨60000, n', 0, true, none, fs'⟩ ∧ ZA fs' zs (16 * (k + 1 + 1))) := by
                  obtain ⟨n', fs', e1, e2, e3⟩ := E.out
                  rw [e1] at h9
                  exact ⟨n', fs', e2, h9.1, e3⟩
                have HB9 : Hid (Below B w2 w9) := HB8.out.trans h9.2.2
                have HW9 : Hid (Kee w5 w9) := HW8.out.trans h9.2.1
                clear h9
                go_wp2_with fail
                go_roundw
                case rel =>
                  obtain ⟨n', fs', e2, h1, h2⟩ := HA9.out
                  exact ⟨k + 1, n', fs', by omega, by omega, by omega, by simp, h1, h2, HB9.out, HW9.out⟩
                case measure => simp [intOf]; omega
              · have dm : (ok : Int) % 5 = 2 := by omega
                by_cases hneg : on < 0
                · go_wp2_with (refine wpList_load_mid rfl 37 _ rfl b (off + k * 7) (by rfl) _ _ HCL.out Try.underlying37 rfl infoO7 ?_)
                  refine (trunc_neg _ B p m _ HA7.out oaa on hneg).mono ?_
                  rintro e w9 ⟨he, h9⟩
                  subst he
                  have HA9 : Hid (DA w9 B p m ⟨60000, n, 0, true, none, fs⟩) := h9.1
                  have HB9 : Hid (Below B w2 w9) := HB7.out.trans h9.2.2
                  have HW9 : Hid (Kee w5 w9) := HW7.out.trans h9.2.1
                  clear h9
                  go_wp2_with fail
                  go_roundw
                  case rel => exact ⟨k + 1, n, fs, by omega, by omega, by omega, by simp, HA9.out, ⟨HZA.out.1, Nat.le_trans HZA.out.2 (by omega)⟩, HB9.out, HW9.out⟩
                  case measure => simp [intOf]; omega
                · obtain ⟨nn, rfl⟩ : ∃ nn : Nat, on = (nn : Int) := ⟨on.toNat, by omega⟩
                  go_wp2_with (refine wpList_load_mid rfl 37 _ rfl b (off + k * 7) (by rfl) _ _ HCL.out Try.underlying37 rfl infoO7 ?_)
                  have E : Hid (∃ n' fs', (oper ⟨60000, n, 0, true, none, fs⟩ ⟨2, oaa.data.toList, [], nn⟩).2 = ⟨60000, n', 0, true, none, fs'⟩ ∧ n' ≤ n + 1 ∧ ZA fs' zs (16 * (k + 1 + 1))) := oper_za (k := k + 1) HZA.out (by omega) _ HNA.out (by simp)
                  refine (trunc_any _ B p m _ HA7.out oaa (by omega) nn (by omega) (by dsimp only; omega) (by dsimp only; omega)).mono ?_
                  rintro e w9 ⟨he, h9⟩
                  have HB8 := HB7
                  have HW8 := HW7
                  generalize (oper ⟨60000, n, 0, true, none, fs⟩ ⟨2, oaa.data.toList, [], nn⟩) = r9 at he h9 E
                  subst he
                  have HA9 : Hid (∃ n' fs', n' ≤ n + 1 ∧ DA w9 B p m ⟨60000, n', 0, true, none, fs'⟩ ∧ ZA fs' zs (16 * (k + 1 + 1))) := by
                    obtain ⟨n', fs', e1, e2, e3⟩ := E.out
                    rw [e1] at h9
                    exact ⟨n', fs', e2, h9.1, e3⟩
                  have HB9 : Hid (Below B w2 w9) := HB8.out.trans h9.2.2
                  have HW9 : Hid (Kee w5 w9) := HW8.out.trans h9.2.1
                  clear h9
                  go_wp2_with fail
                  go_roundw
                  case rel =>
                    obtain ⟨n', fs', e2, h1, h2⟩ := HA9.out
                    exact ⟨k + 1, n', fs', by omega, by omega, by omega, by simp, h1, h2, HB9.out, HW9.out⟩
                  case measure => simp [intOf]; omega
              · have dm : (ok : Int) % 5 = 3 := by omega
                go_wp2_with (refine wpList_load_mid rfl 37 _ rfl b (off + k * 7) (by rfl) _ _ HCL.out Try.underlying37 rfl infoO7 ?_)
                have E : Hid (∃ n' fs', (oper ⟨60000, n, 0, true, none, fs⟩ ⟨3, oaa.data.toList, obb.data.toList, 0⟩).2 = ⟨60000, n', 0, true, none, fs'⟩ ∧ n' ≤ n + 1 ∧ ZA fs' zs (16 * (k + 1 + 1))) := oper_za (k := k + 1) HZA.out (by omega) _ HNA.out HNB.out
                refine (rename_any _ B p m _ HA7.out oaa (by omega) obb (by omega) (by dsimp only; omega) (by dsimp only; omega)).mono ?_
                rintro e w9 ⟨he, h9⟩
                have HB8 := HB7
                have HW8 := HW7
                generalize (oper ⟨60000, n, 0, true, none, fs⟩ ⟨3, oaa.data.toList, obb.data.toList, 0⟩) = r9 at he h9 E
                subst he
                have HA9 : Hid (∃ n' fs', n' ≤ n + 1 ∧ DA w9 B p m ⟨60000, n', 0, true, none, fs'⟩ ∧ ZA fs' zs (16 * (k + 1 + 1))) := by
                  obtain ⟨n', fs', e1, e2, e3⟩ := E.out
                  rw [e1] at h9
                  exact ⟨n', fs', e2, h9.1, e3⟩
                have HB9 : Hid (Below B w2 w9) := HB8.out.trans h9.2.2
                have HW9 : Hid (Kee w5 w9) := HW8.out.trans h9.2.1
                clear h9
                go_wp2_with fail
                go_roundw
                case rel =>
                  obtain ⟨n', fs', e2, h1, h2⟩ := HA9.out
                  exact ⟨k + 1, n', fs', by omega, by omega, by omega, by simp, h1, h2, HB9.out, HW9.out⟩
                case measure => simp [intOf]; omega
              · have dm : (ok : Int) % 5 = 4 := by omega
                go_wp2_with (refine wpList_load_mid rfl 37 _ rfl b (off + k * 7) (by rfl) _ _ HCL.out Try.underlying37 rfl infoO7 ?_)
                have E : Hid (∃ n' fs', (oper ⟨60000, n, 0, true, none, fs⟩ ⟨4, oaa.data.toList, [], 0⟩).2 = ⟨60000, n', 0, true, none, fs'⟩ ∧ n' ≤ n + 1 ∧ ZA fs' zs (16 * (k + 1 + 1))) := oper_za (k := k + 1) HZA.out (by omega) _ HNA.out (by simp)
                refine (remove_any _ B p m _ HA7.out oaa (by omega) (by dsimp only; omega) (by dsimp only; omega)).mono ?_
                rintro e w9 ⟨he, h9⟩
                have HB8 := HB7
                have HW8 := HW7
                generalize (oper ⟨60000, n, 0, true, none, fs⟩ ⟨4, oaa.data.toList, [], 0⟩) = r9 at he h9 E
                subst he
                have HA9 : Hid (∃ n' fs', n' ≤ n + 1 ∧ DA w9 B p m ⟨60000, n', 0, true, none, fs'⟩ ∧ ZA fs' zs (16 * (k + 1 + 1))) := by
                  obtain ⟨n', fs', e1, e2, e3⟩ := E.out
                  rw [e1] at h9
                  exact ⟨n', fs', e2, h9.1, e3⟩
                have HB9 : Hid (Below B w2 w9) := HB8.out.trans h9.2.2
                have HW9 : Hid (Kee w5 w9) := HW8.out.trans h9.2.1
                clear h9
                go_wp2_with fail
                go_roundw
                case rel =>
                  obtain ⟨n', fs', e2, h1, h2⟩ := HA9.out
                  exact ⟨k + 1, n', fs', by omega, by omega, by omega, by simp, h1, h2, HB9.out, HW9.out⟩
                case measure => simp [intOf]; omega
      · obtain rfl : k = N := by omega
        go_wp2_with fail
        go_meet
        exact ⟨n, fs, by omega, HA.out, ⟨HZA.out.1, Nat.le_trans HZA.out.2 (by omega)⟩, HBE.out, HW.out⟩
  case rest =>
    obtain ⟨n, fs, hn100, HA, HZA, HBE, HW⟩ := hcut
    obtain ⟨⟨sy, hz⟩, _⟩ := HZA.out
    have E6 := (show Hid _ from show seen ⟨60000, n, 0, true, none, fs⟩ [122, 57] = (0, zs) from seen_on (t := ([122, 57], zs, sy)) rfl hz rfl)
    clear hz
    go_wp2_with fail
    refine (read_any wc B p m _ HA.out ⟨#[122, 57]⟩ (by decide)).mono ?_
    rintro e w6 ⟨⟨u6, he, O6⟩, b6⟩
    rw [show (⟨#[122, 57]⟩ : ByteArray).data.toList = [122, 57] from rfl, E6.out] at he O6
    obtain rfl : e = .returned (.tuple #[u6, .int .i64 0]) := he
    have HO6 : Hid (Bs w6 u6 (flat zs)) := O6.bs
    have HS6 : Hid (Bs w6 (.slice a5 n5 c5) (flat zs)) := (HO5.out.kee (HW.out.trans (Kee.bel b6))).bs
    have HB6 : Hid (Below B w2 w6) := HBE.out.trans (b6.mono HA.out.lt)
    have HBs6 : Hid (B ≤ w6.heap.size) := Nat.le_trans HA.out.lt b6.size
    clear O6 b6 E6
    go_wp2_with fail
    refine (same_ok _ _ _ _ _ HO6.out HS6.out).mono ?_
    rintro e w7 ⟨rfl, b7⟩
    rw [decide_eq_true rfl]
    have HB7 := (show Hid _ from HALL.out w7 (HB6.out.trans (b7.mono HBs6.out)))
    clear b7
    go_wp2_with fail
    go_ret
    exact ⟨rfl, HB7.out⟩
end Go.Proofs.Ytonnkfijifdgcab
