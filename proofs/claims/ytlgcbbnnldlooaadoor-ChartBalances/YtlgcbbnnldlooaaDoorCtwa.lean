/- the document's ledger: DocPost. -/
import Derived.Test.YtlgcbbnnldlooaaDoorCtw
namespace Go.Proofs.YtlgcbbnnldlooaaDoor
open Go.RowKit Go.Maps
set_option linter.unusedVariables false

/-- the document's ledger behind the pointer to block p: the balances b, n entries -/
structure DL (w : World) (p : Nat) (b : Int → Int → Int) (n : Int) : Prop where
  rng : ∀ c u, Va c u → -M36 ≤ b c u ∧ b c u ≤ M36
  ib : IB w p 36 (lf b) [.int .i64 n] 33
theorem DL.step {w w' : World} {p : Nat} {b : Int → Int → Int} {n : Int} (h : DL w p b n) (k : Below w.heap.size w w') : DL w' p b n := ⟨h.rng, h.ib.step k⟩
theorem DL.no {w : World} {p : Nat} {b : Int → Int → Int} {n : Int} (h : DL w p b n) {ls : List Ln} (e : perr b ls ≠ 0) : DL w p (pst b ls) (pcnt b ls n) := by rw [pst_no e, pcnt_no e]; exact h
theorem infoLg : (Tryd.prog.info? 33).map (·.size) = some 73 := by kernel_rfl
theorem infoA4 : (Tryd.prog.info? 30).map (·.size) = some 8 := by kernel_rfl
theorem sat_zero {ls : List Ln} (h : ∀ x ∈ ls, x.pl = true) (u : Int) : sat ls 0 u = 0 := by
  refine sat_none ?_
  unfold tch
  rw [List.any_eq_false]
  intro x hx
  have := Ln.va (h x hx)
  simp only [decide_eq_true_eq]
  intro e
  have := this.1
  omega
theorem nf_low {b : Int → Int → Int} {ls : List Ln} (h : ∀ x ∈ ls, x.pl = true) {i : Nat} (hi : i < 4) : nf b ls i = 0 := by
  unfold nf lf
  rw [if_pos hi, show i / 4 = 0 by omega]
  simp [sat_zero h]
theorem nf_va {b : Int → Int → Int} {ls : List Ln} {c u : Int} (hv : Va c u) : nf b ls (4 * c.toNat + u.toNat) = b c u + sat ls c u := by
  unfold Va at hv
  unfold nf lf
  rw [if_neg (by omega), show (4 * c.toNat + u.toNat) / 4 = c.toNat by omega, show (4 * c.toNat + u.toNat) % 4 = u.toNat by omega, Int.toNat_of_nonneg (by omega), Int.toNat_of_nonneg (by omega)]
theorem nf_pst {b : Int → Int → Int} {ls : List Ln} (h : ∀ x ∈ ls, x.pl = true) (hp : perr b ls = 0) {i : Nat} (hi : i < 36) : nf b ls i = lf (pst b ls) i := by
  by_cases h4 : i < 4
  · rw [nf_low h h4]; unfold lf; rw [if_pos h4]
  · unfold nf lf
    rw [if_neg h4, if_neg h4, show pst b ls = fun c u => b c u + sat ls c u from if_pos hp]
theorem out_cmp (z : Int) : decide (0 < cmpN z.natAbs (10 ^ 36)) = out36 z := by
  unfold out36 cmpN M36
  refine decide_eq_decide.2 ?_
  have : (10 : Nat) ^ 36 = 1000000000000000000000000000000000000 := by decide
  split <;> (try split) <;> omega
theorem idx4_0 (x0 x1 x2 x3 x4 x5 x6 x7 : Value) (w : World) : (Instr.index 30 (.agg #[x0, x1, x2, x3, x4, x5, x6, x7]) (.int .i64 0)).run Tryd.prog w = .ok (.agg #[x0, x1]) w := by
  simp [Instr.index, run_underlying Tryd.underlying30, asIntOf, go_sem]
theorem idx4_1 (x0 x1 x2 x3 x4 x5 x6 x7 : Value) (w : World) : (Instr.index 30 (.agg #[x0, x1, x2, x3, x4, x5, x6, x7]) (.int .i64 1)).run Tryd.prog w = .ok (.agg #[x2, x3]) w := by
  simp [Instr.index, run_underlying Tryd.underlying30, asIntOf, go_sem]
theorem idx4_2 (x0 x1 x2 x3 x4 x5 x6 x7 : Value) (w : World) : (Instr.index 30 (.agg #[x0, x1, x2, x3, x4, x5, x6, x7]) (.int .i64 2)).run Tryd.prog w = .ok (.agg #[x4, x5]) w := by
  simp [Instr.index, run_underlying Tryd.underlying30, asIntOf, go_sem]
theorem idx4_3 (x0 x1 x2 x3 x4 x5 x6 x7 : Value) (w : World) : (Instr.index 30 (.agg #[x0, x1, x2, x3, x4, x5, x6, x7]) (.int .i64 3)).run Tryd.prog w = .ok (.agg #[x6, x7]) w := by
  simp [Instr.index, run_underlying Tryd.underlying30, asIntOf, go_sem]
set_option maxHeartbeats 16000000 in
set_option maxRecDepth 100000 in
theorem dpost_ok (p : Nat) (b : Int → Int → Int) (en : Int) (v : Value) (ls : List Ln) (w : World) (D : DL w p b en) (h : LIn w v ls) (hn : 0 ≤ en ∧ en ≤ 4611686018427387904) :
    Calls Tryd.prog 12 #[.pointer (some ⟨p, 0, none⟩), v] w fun e w' => e = .returned (.int .i64 (perr b ls)) ∧ DL w' p (pst b ls) (pcnt b ls en) ∧ But (fun i => i = p) w w' := by
  obtain ⟨N, hN⟩ : ∃ N, N = ls.length := ⟨_, rfl⟩
  obtain ⟨ta, tc, rfl, g1, g2⟩ : ∃ a c, v = .slice a N c ∧ N ≤ c ∧ c ≤ 9223372036854775807 := by obtain ⟨a, c, e, h1, h2, _⟩ := h.sl; exact ⟨a, c, by rw [hN]; exact e, by rw [hN]; exact h1, h2⟩
  have HK := (show Hid _ from h)
  have HNN := (show Hid _ from hN)
  clear h hN
  have V6 : VA ((w.alloc (.cells #[.bool false, .slice none 0 0, .bool false, .slice none 0 0, .bool false, .slice none 0 0, .bool false, .slice none 0 0] 30)).alloc (.cells Tryd.zeroCells33 33)) w.heap.size (zint 4 ++ []) 30 := (va_new w (zint 4 ++ []) 30).alloc (.cells Tryd.zeroCells33 33)
  have V7 : VA ((w.alloc (.cells #[.bool false, .slice none 0 0, .bool false, .slice none 0 0, .bool false, .slice none 0 0, .bool false, .slice none 0 0] 30)).alloc (.cells Tryd.zeroCells33 33)) (w.heap.size + 1) (zint 36 ++ [.int .i64 0]) 33 := by
    have := va_new (w.alloc (.cells #[.bool false, .slice none 0 0, .bool false, .slice none 0 0, .bool false, .slice none 0 0, .bool false, .slice none 0 0] 30)) (zint 36 ++ [.int .i64 0]) 33
    rw [World.size_alloc, show (zint 36 ++ [Value.int .i64 0]).toArray = Tryd.zeroCells33 by kernel_rfl] at this
    exact this
  have B0 := ((Below.refl w.heap.size w).alloc (Nat.le_refl _) (.cells #[.bool false, .slice none 0 0, .bool false, .slice none 0 0, .bool false, .slice none 0 0, .bool false, .slice none 0 0] 30)).alloc (by simp) (.cells Tryd.zeroCells33 33)
  have HRG := (show Hid _ from D.rng)
  have HD := (show Hid _ from D)
  have HEN := (show Hid _ from hn)
  have HPL0 : Hid (p < w.heap.size) := D.ib.lt
  have HS1 := (show Hid _ from ib_zero V6 (by simp))
  have HV7 := (show Hid _ from V7)
  have HB1 := (show Hid _ from B0)
  have D1 := D.step B0
  obtain ⟨cs, k1, k2, k3, k4⟩ := D1.ib.ex
  have K1 := (show Hid _ from k1)
  have K2 := (show Hid _ from k2)
  have K3 := (show Hid _ from k3)
  have K4 := (show Hid _ from k4)
  have hl73 : (cs ++ [Value.int .i64 en]).length = 73 := by rw [List.length_append, k2]; rfl
  have HL73 := (show Hid _ from hl73)
  clear V6 V7 B0 D1 k1 k2 k3 k4 D hn hl73
  go_enter Tryd.func12, Tryd.ntmps12
  go_upto_region 5 with fail
  generalize (w.alloc (.cells #[.bool false, .slice none 0 0, .bool false, .slice none 0 0, .bool false, .slice none 0 0, .bool false, .slice none 0 0] 30)).alloc (.cells Tryd.zeroCells33 33) = w1 at *
  generalize hq : w.heap.size = q at *
  have HQ := (show Hid _ from hq)
  clear hq
  go_wp2_with (first | (refine ldA rfl 33 _ rfl p (by rfl) (cs ++ [.int .i64 en]) 33 K1.out _ Tryd.underlying33 rfl (by rw [HL73.out]; exact infoLg) ?_) | (refine stA rfl 33 _ _ rfl (q + 1) (by rfl) (zint 36 ++ [.int .i64 0]) (cs ++ [.int .i64 en]) (by rfl) 33 HV7.out (by rw [HL73.out]; exact infoLg) (by rw [HL73.out]; rfl) K3.out ?_; intro w2 v2 u2))
  have U2 := u2.but
  have KU2 := U2.keepU HV7.out (by decide)
  have HS2 := (show Hid _ from HS1.out.mv (U2.block _ HS1.out.lt (by omega)) KU2)
  have HX2 : Hid (IB w2 (q + 1) 36 (lf b) [.int .i64 en] 33) := ⟨cs, v2, K2.out, K3.out, fun i hi => by
    obtain ⟨m, a, k, c, e1, e2, e3⟩ := K4.out i hi
    exact ⟨m, a, k, c, e1, e2, e3.keepU KU2⟩⟩
  have HB2 := (show Hid _ from HB1.out.trans (U2.below (by have := HB1.out.size; have := HQ.out; omega) (fun i (hi : i = q + 1) => by omega)))
  clear U2 KU2 u2 v2 K1 K2 K3 K4 HV7 HS1 HB1 HL73
  go_loopw [5, 23] (fun fo i wr => ∃ k : Nat, k ≤ N ∧ i = .int .i64 (k : Int) ∧ fo = .bool ((ls.take k).all (fun x => x.ok)) ∧ Hid (∀ x ∈ ls.take k, x.pl = true) ∧ Hid (IB wr q 4 (fun u => sau (okl (ls.take k)) (u : Int)) [] 30) ∧ Hid (IB wr (q + 1) 36 (nf b (okl (ls.take k))) [.int .i64 en] 33) ∧ Hid (Below q w wr)) (fun _ i _ => N - (intOf i).toNat)
  case atStart => exact ⟨0, by omega, rfl, rfl, (by intro x hx; simp at hx), HS2.out.congr (g := fun u => sau (okl (ls.take 0)) (u : Int)) (fun u _ => rfl), HX2.out.congr (g := nf b (okl (ls.take 0))) (fun i _ => by unfold nf; simp [okl, sat]), HB2.out⟩
  case round =>
    obtain ⟨k, hk, rfl, rfl, HPL, HS, HX, HB⟩ := hrel
    by_cases hkn : k = N
    · have hall : ls.take k = ls := by rw [hkn, HNN.out, List.take_length]
      rw [hall] at HPL HS HX ⊢
      clear hall
      subst hkn
      obtain ⟨wb, rfl⟩ : ∃ wb, wb = wr := ⟨wr, rfl⟩
      have HDB : Hid (Below w.heap.size w wb) := by rw [HQ.out]; exact HB.out
      by_cases h16 : (16 : Int) < (k : Int)
      · have HP : Hid (cherr ls = 2) := cherr_long HPL.out (by have := HNN.out; omega)
        go_wp2_with fail
        go_ret
        exact ⟨by rw [perr_c (by rw [HP.out]; decide), HP.out]; rfl, (HD.out.step HDB.out).no (by rw [perr_c (by rw [HP.out]; decide), HP.out]; decide), below_but HDB.out _⟩
      cases ho : ls.all (fun x => x.ok)
      · have HP : Hid (cherr ls = 3) := cherr_form HPL.out (by have := HNN.out; omega) ho
        clear ho
        go_wp2_with fail
        go_ret
        exact ⟨by rw [perr_c (by rw [HP.out]; decide), HP.out]; rfl, (HD.out.step HDB.out).no (by rw [perr_c (by rw [HP.out]; decide), HP.out]; decide), below_but HDB.out _⟩
      have HC0 : Hid (cherr ls = 0) := cherr_fine HPL.out (by have := HNN.out; omega) ho
      have hok : okl ls = ls := okl_all (fun x hx => (List.all_eq_true.1 ho) x hx)
      rw [hok] at HS HX
      have hall : ∀ x ∈ ls, x.wf := HK.out.wf
      have HALL := (show Hid _ from hall)
      clear hok ho hall
      go_wp2_with fail
      go_loopw [78] (fun ix wx => ∃ c : Nat, c ≤ 9 ∧ ix = .int .i64 (c : Int) ∧ Hid (∀ i, i < 4 * c → out36 (nf b ls i) = false) ∧ Hid (Below wb.heap.size wb wx)) (fun ix _ => 9 - (intOf ix).toNat)
      case atStart => exact ⟨0, by omega, rfl, (fun i hi => by omega), Below.refl _ _⟩
      case round =>
        obtain ⟨c, hc, rfl, HO, HBc⟩ := hrel
        by_cases hc9 : c = 9
        · subst hc9
          obtain ⟨wd, rfl⟩ : ∃ wd, wd = wr := ⟨wr, rfl⟩
          have HRB : Hid (rbad b ls = false) := rbad_no (fun c u hv => by rw [← nf_va hv]; exact HO.out _ (by unfold Va at hv; omega))
          have HS5 := (show Hid _ from HS.out.step HBc.out)
          have HX5 := (show Hid _ from HX.out.step HBc.out)
          have HB5 : Hid (Below w.heap.size w wd) := HDB.out.trans (HBc.out.mono HDB.out.size)
          clear HO HBc HS HX HB HDB
          obtain ⟨sc, s1, s2, s3, s4⟩ := HS5.out.ex
          rw [List.append_nil] at s1
          obtain ⟨t0, t1, t2, t3, t4, t5, t6, t7, rfl⟩ : ∃ t0 t1 t2 t3 t4 t5 t6 t7, sc = [t0, t1, t2, t3, t4, t5, t6, t7] := by
            match sc, s2 with
            | [t0, t1, t2, t3, t4, t5, t6, t7], _ => exact ⟨_, _, _, _, _, _, _, _, rfl⟩
          obtain ⟨m0, a0, l0, r0, e0, e1, i0⟩ := s4 0 (by decide)
          obtain ⟨m1, a1, l1, r1, e2, e3, i1⟩ := s4 1 (by decide)
          obtain ⟨m2, a2, l2, r2, e4, e5, i2⟩ := s4 2 (by decide)
          obtain ⟨m3, a3, l3, r3, e6, e7, i3⟩ := s4 3 (by decide)
          simp at e0 e1 e2 e3 e4 e5 e6 e7
          subst e0 e1 e2 e3 e4 e5 e6 e7
          have V6 := (show Hid _ from s1)
          have I0 : Hid (In wd (.agg #[.bool m0, .slice a0 l0 r0]) (sau ls 0)) := i0
          have I1 : Hid (In wd (.agg #[.bool m1, .slice a1 l1 r1]) (sau ls 1)) := i1
          have I2 : Hid (In wd (.agg #[.bool m2, .slice a2 l2 r2]) (sau ls 2)) := i2
          have I3 : Hid (In wd (.agg #[.bool m3, .slice a3 l3 r3]) (sau ls 3)) := i3
          clear s1 s2 s3 s4 i0 i1 i2 i3 HS5
          go_wp2_with (refine ldA rfl 30 _ rfl q (by rfl) [.bool m0, .slice a0 l0 r0, .bool m1, .slice a1 l1 r1, .bool m2, .slice a2 l2 r2, .bool m3, .slice a3 l3 r3] 30 V6.out _ Tryd.underlying30 rfl infoA4 ?_)
          go_loopw [97] (fun ix wy => ∃ j : Nat, j ≤ 4 ∧ ix = .int .i64 (j : Int) ∧ Hid (∀ u : Int, 0 ≤ u → u < (j : Int) → sau ls u = 0) ∧ Hid (Below wd.heap.size wd wy)) (fun ix _ => 4 - (intOf ix).toNat)
          case atStart => exact ⟨0, by omega, rfl, (fun u h1 h2 => by omega), Below.refl _ _⟩
          case round =>
            obtain ⟨j, hj, rfl, HU, HBj⟩ := hrel
            have hj4 : j = 4 ∨ j = 3 ∨ j = 2 ∨ j = 1 ∨ j = 0 := by omega
            rcases hj4 with rfl | rfl | rfl | rfl | rfl
            · have HP0 : Hid (perr b ls = 0) := perr_0 HC0.out HRB.out (bal_yes (fun u h0 h3 => HU.out u h0 (by omega)))
              have HX6 := (show Hid _ from HX5.out.step HBj.out)
              have HB6 : Hid (Below w.heap.size w wr) := HB5.out.trans (HBj.out.mono HB5.out.size)
              have HD6 := (show Hid _ from HD.out.step HB6.out)
              clear HU HBj HB5 HX5 I0 I1 I2 I3 V6
              obtain ⟨cs, k1, k2, k3, k4⟩ := HX6.out.ex
              obtain ⟨ds, d1, d2, d3, d4⟩ := HD6.out.ib.ex
              have z1 := k1.cell 72 (v := .int .i64 en) (by rw [List.getElem?_append_right (by omega), k2]; rfl)
              have z2 := k1.free 72
              have v8 := k1.set 72 (.int .i64 (en + 1))
              rw [List.set_append_right _ _ (by omega), k2] at v8
              have V8 : Hid (VA (wr.setCell ⟨q + 1, 72, none⟩ (.int .i64 (en + 1))) (q + 1) (cs ++ [.int .i64 (en + 1)]) 33) := v8
              have U8 := (upd_set wr (q + 1) 72 (.int .i64 (en + 1))).but
              have KU8 := (show Hid _ from U8.keepU k1 (by decide))
              have VD : Hid (VA (wr.setCell ⟨q + 1, 72, none⟩ (.int .i64 (en + 1))) p (ds ++ [.int .i64 en]) 33) := d1.but U8 (fun (e : p = q + 1) => by have := HPL0.out; omega)
              have HB8 : Hid (But (fun i => i = p) w (wr.setCell ⟨q + 1, 72, none⟩ (.int .i64 (en + 1)))) := (below_but HB6.out _).trans U8 (fun i hi (e : i = q + 1) => by have := HQ.out; omega)
              have L8 : Hid ((cs ++ [Value.int .i64 (en + 1)]).length = 73) := (show _ = _ by rw [List.length_append, k2]; rfl)
              have L9 : Hid ((ds ++ [Value.int .i64 en]).length = 73) := (show _ = _ by rw [List.length_append, d2]; rfl)
              have O8 : Hid (∀ v ∈ cs ++ [Value.int .i64 (en + 1)], v.oneCell' = true) := fun v hv => by
                rcases List.mem_append.1 hv with hv | hv
                · exact k3 v (List.mem_append_left _ hv)
                · simp at hv; subst hv; rfl
              have K2 := (show Hid _ from k2)
              have K4 := (show Hid _ from k4)
              have hw : IntKind.i64.wrap (en + 1) = en + 1 := by have := HEN.out; rw [IntKind.wrap_i64]; omega
              clear k1 k2 k3 k4 d1 d2 d3 d4 v8 U8
              go_wp2_with (first | (refine ldA rfl 33 _ rfl (q + 1) (by rfl) (cs ++ [.int .i64 (en + 1)]) 33 V8.out _ Tryd.underlying33 rfl (by rw [L8.out]; exact infoLg) ?_) | (refine stA rfl 33 _ _ rfl p (by rfl) (ds ++ [.int .i64 en]) (cs ++ [.int .i64 (en + 1)]) (by rfl) 33 VD.out (by rw [L8.out]; exact infoLg) (by rw [L8.out, L9.out]) O8.out ?_; intro w9 v9 u9))
              go_ret
              have KU9 := (u9.but).keepU VD.out (by decide)
              refine ⟨by rw [HP0.out]; rfl, ⟨pst_rng HRG.out, ?_⟩, HB8.out.trans u9.but (fun i _ e => e)⟩
              unfold pcnt
              rw [if_pos HP0.out]
              refine ⟨cs, v9, K2.out, O8.out, fun i hi => ?_⟩
              obtain ⟨m, a, k, c, e1, e2, e3⟩ := K4.out i hi
              rw [nf_pst HPL.out HP0.out hi] at e3
              exact ⟨m, a, k, c, e1, e2, (e3.keepU KU8.out).keepU KU9⟩
            · have HIN := (show Hid _ from I3.out.step HBj.out)
              obtain ⟨zz, hzz⟩ : ∃ zz, zz = sau ls 3 := ⟨_, rfl⟩
              rw [← hzz] at HIN
              have BA := (Below.refl wr.heap.size wr).alloc (Nat.le_refl _) (.cells #[.bool m3, .slice a3 l3 r3] 29)
              have HIA := (show Hid _ from HIN.out.step BA)
              have HBA := (show Hid _ from BA)
              clear BA
              have hix := idx4_3 (.bool m0) (.slice a0 l0 r0) (.bool m1) (.slice a1 l1 r1) (.bool m2) (.slice a2 l2 r2) (.bool m3) (.slice a3 l3 r3) wr
              go_wp2_with fail
              clear hix
              refine (sign_in _ _ _ HIA.out).mono ?_
              rintro e w7 ⟨rfl, b7⟩
              have HB7 := (show Hid _ from (HBj.out.trans (HBA.out.mono HBj.out.size)).trans (b7.mono (by have := HBj.out.size; simp; omega)))
              clear b7 HIN HIA HBA
              have hsg : (sgn zz != 0) = !decide (zz = 0) := by
                unfold sgn
                by_cases e : zz = 0
                · subst e; decide
                · rw [decide_eq_false e, if_neg e]; split <;> rfl
              by_cases hz : zz = 0
              · rw [decide_eq_true hz] at hsg
                have HZ0 : Hid (sau ls 3 = 0) := by rw [← hzz]; exact hz
                clear hz hzz
                generalize sgn zz = sg at *
                go_wp2_with fail
                refine ⟨⟨4, by omega, by go_num, (fun u h1 h2 => ?_), HB7.out⟩, by simp [intOf]⟩
                by_cases e : u = 3
                · subst e; exact HZ0.out
                · exact HU.out u h1 (by omega)
              · rw [decide_eq_false hz] at hsg
                have HP : Hid (perr b ls = 15) := perr_15 HC0.out HRB.out (bal_no (u := 3) (by decide) (by decide) (by rw [← hzz]; exact hz))
                have HBY : Hid (Below w.heap.size w w7) := HB5.out.trans (HB7.out.mono HB5.out.size)
                clear hz hzz
                generalize sgn zz = sg at *
                go_wp2_with fail
                go_ret
                exact ⟨by rw [HP.out]; rfl, (HD.out.step HBY.out).no (by rw [HP.out]; decide), below_but HBY.out _⟩
            · have HIN := (show Hid _ from I2.out.step HBj.out)
              obtain ⟨zz, hzz⟩ : ∃ zz, zz = sau ls 2 := ⟨_, rfl⟩
              rw [← hzz] at HIN
              have BA := (Below.refl wr.heap.size wr).alloc (Nat.le_refl _) (.cells #[.bool m2, .slice a2 l2 r2] 29)
              have HIA := (show Hid _ from HIN.out.step BA)
              have HBA := (show Hid _ from BA)
              clear BA
              have hix := idx4_2 (.bool m0) (.slice a0 l0 r0) (.bool m1) (.slice a1 l1 r1) (.bool m2) (.slice a2 l2 r2) (.bool m3) (.slice a3 l3 r3) wr
              go_wp2_with fail
              clear hix
              refine (sign_in _ _ _ HIA.out).mono ?_
              rintro e w7 ⟨rfl, b7⟩
              have HB7 := (show Hid _ from (HBj.out.trans (HBA.out.mono HBj.out.size)).trans (b7.mono (by have := HBj.out.size; simp; omega)))
              clear b7 HIN HIA HBA
              have hsg : (sgn zz != 0) = !decide (zz = 0) := by
                unfold sgn
                by_cases e : zz = 0
                · subst e; decide
                · rw [decide_eq_false e, if_neg e]; split <;> rfl
              by_cases hz : zz = 0
              · rw [decide_eq_true hz] at hsg
                have HZ0 : Hid (sau ls 2 = 0) := by rw [← hzz]; exact hz
                clear hz hzz
                generalize sgn zz = sg at *
                go_wp2_with fail
                refine ⟨⟨3, by omega, by go_num, (fun u h1 h2 => ?_), HB7.out⟩, by simp [intOf]⟩
                by_cases e : u = 2
                · subst e; exact HZ0.out
                · exact HU.out u h1 (by omega)
              · rw [decide_eq_false hz] at hsg
                have HP : Hid (perr b ls = 15) := perr_15 HC0.out HRB.out (bal_no (u := 2) (by decide) (by decide) (by rw [← hzz]; exact hz))
                have HBY : Hid (Below w.heap.size w w7) := HB5.out.trans (HB7.out.mono HB5.out.size)
                clear hz hzz
                generalize sgn zz = sg at *
                go_wp2_with fail
                go_ret
                exact ⟨by rw [HP.out]; rfl, (HD.out.step HBY.out).no (by rw [HP.out]; decide), below_but HBY.out _⟩
            · have HIN := (show Hid _ from I1.out.step HBj.out)
              obtain ⟨zz, hzz⟩ : ∃ zz, zz = sau ls 1 := ⟨_, rfl⟩
              rw [← hzz] at HIN
              have BA := (Below.refl wr.heap.size wr).alloc (Nat.le_refl _) (.cells #[.bool m1, .slice a1 l1 r1] 29)
              have HIA := (show Hid _ from HIN.out.step BA)
              have HBA := (show Hid _ from BA)
              clear BA
              have hix := idx4_1 (.bool m0) (.slice a0 l0 r0) (.bool m1) (.slice a1 l1 r1) (.bool m2) (.slice a2 l2 r2) (.bool m3) (.slice a3 l3 r3) wr
              go_wp2_with fail
              clear hix
              refine (sign_in _ _ _ HIA.out).mono ?_
              rintro e w7 ⟨rfl, b7⟩
              have HB7 := (show Hid _ from (HBj.out.trans (HBA.out.mono HBj.out.size)).trans (b7.mono (by have := HBj.out.size; simp; omega)))
              clear b7 HIN HIA HBA
              have hsg : (sgn zz != 0) = !decide (zz = 0) := by
                unfold sgn
                by_cases e : zz = 0
                · subst e; decide
                · rw [decide_eq_false e, if_neg e]; split <;> rfl
              by_cases hz : zz = 0
              · rw [decide_eq_true hz] at hsg
                have HZ0 : Hid (sau ls 1 = 0) := by rw [← hzz]; exact hz
                clear hz hzz
                generalize sgn zz = sg at *
                go_wp2_with fail
                refine ⟨⟨2, by omega, by go_num, (fun u h1 h2 => ?_), HB7.out⟩, by simp [intOf]⟩
                by_cases e : u = 1
                · subst e; exact HZ0.out
                · exact HU.out u h1 (by omega)
              · rw [decide_eq_false hz] at hsg
                have HP : Hid (perr b ls = 15) := perr_15 HC0.out HRB.out (bal_no (u := 1) (by decide) (by decide) (by rw [← hzz]; exact hz))
                have HBY : Hid (Below w.heap.size w w7) := HB5.out.trans (HB7.out.mono HB5.out.size)
                clear hz hzz
                generalize sgn zz = sg at *
                go_wp2_with fail
                go_ret
                exact ⟨by rw [HP.out]; rfl, (HD.out.step HBY.out).no (by rw [HP.out]; decide), below_but HBY.out _⟩
            · have HIN := (show Hid _ from I0.out.step HBj.out)
              obtain ⟨zz, hzz⟩ : ∃ zz, zz = sau ls 0 := ⟨_, rfl⟩
              rw [← hzz] at HIN
              have BA := (Below.refl wr.heap.size wr).alloc (Nat.le_refl _) (.cells #[.bool m0, .slice a0 l0 r0] 29)
              have HIA := (show Hid _ from HIN.out.step BA)
              have HBA := (show Hid _ from BA)
              clear BA
              have hix := idx4_0 (.bool m0) (.slice a0 l0 r0) (.bool m1) (.slice a1 l1 r1) (.bool m2) (.slice a2 l2 r2) (.bool m3) (.slice a3 l3 r3) wr
              go_wp2_with fail
              clear hix
              refine (sign_in _ _ _ HIA.out).mono ?_
              rintro e w7 ⟨rfl, b7⟩
              have HB7 := (show Hid _ from (HBj.out.trans (HBA.out.mono HBj.out.size)).trans (b7.mono (by have := HBj.out.size; simp; omega)))
              clear b7 HIN HIA HBA
              have hsg : (sgn zz != 0) = !decide (zz = 0) := by
                unfold sgn
                by_cases e : zz = 0
                · subst e; decide
                · rw [decide_eq_false e, if_neg e]; split <;> rfl
              by_cases hz : zz = 0
              · rw [decide_eq_true hz] at hsg
                have HZ0 : Hid (sau ls 0 = 0) := by rw [← hzz]; exact hz
                clear hz hzz
                generalize sgn zz = sg at *
                go_wp2_with fail
                refine ⟨⟨1, by omega, by go_num, (fun u h1 h2 => ?_), HB7.out⟩, by simp [intOf]⟩
                by_cases e : u = 0
                · subst e; exact HZ0.out
                · exact HU.out u h1 (by omega)
              · rw [decide_eq_false hz] at hsg
                have HP : Hid (perr b ls = 15) := perr_15 HC0.out HRB.out (bal_no (u := 0) (by decide) (by decide) (by rw [← hzz]; exact hz))
                have HBY : Hid (Below w.heap.size w w7) := HB5.out.trans (HB7.out.mono HB5.out.size)
                clear hz hzz
                generalize sgn zz = sg at *
                go_wp2_with fail
                go_ret
                exact ⟨by rw [HP.out]; rfl, (HD.out.step HBY.out).no (by rw [HP.out]; decide), below_but HBY.out _⟩
        have hc' : c < 9 := by omega
        have d1 : (c : Int) < 9 := by omega
        go_wp2_with fail
        go_loopw [81] (fun ix wx => ∃ u : Nat, u ≤ 4 ∧ ix = .int .i64 (u : Int) ∧ Hid (∀ i, i < 4 * c + u → out36 (nf b ls i) = false) ∧ Hid (Below wb.heap.size wb wx)) (fun ix _ => 4 - (intOf ix).toNat)
        case atStart => exact ⟨0, by omega, rfl, (fun i hi => HO.out i (by omega)), HBc.out⟩
        case round =>
          obtain ⟨u, hu, rfl, HOu, HBu⟩ := hrel
          by_cases hu4 : u = 4
          · subst hu4
            go_wp2_with fail
            exact ⟨⟨c + 1, by omega, by go_num, (fun i hi => HOu.out i (by omega)), HBu.out⟩, by simp [intOf]; omega⟩
          have hu' : u < 4 := by omega
          have d2 : (u : Int) < 4 := by omega
          have j1 : (0 : Int) ≤ (c : Int) := by omega
          have j3 : (0 : Int) ≤ (u : Int) := by omega
          obtain ⟨mm, am, km, cm, z0, z1, zi⟩ := (HX.out.step HBu.out).at (4 * c + u) (by omega)
          rw [show (4 * c + u) * 2 = c * 8 + u * 2 by omega] at z0 z1
          have HZL : Hid (q + 1 < wr.heap.size) := (HX.out.step HBu.out).lt
          have HZ1 := (show Hid _ from z1)
          obtain ⟨zz, hzz⟩ : ∃ zz, zz = nf b ls (4 * c + u) := ⟨_, rfl⟩
          rw [← hzz] at zi
          obtain ⟨m', a', n', c', ee, hnm, _⟩ := zi.form
          cases ee
          have HNM := (show Hid _ from hnm)
          have HCM := (show Hid _ from out_cmp zz)
          have HZZ := (show Hid _ from hzz)
          clear zi z0 z1 hnm hzz
          go_upto_region 29 with fail
          refine wp_region_noPanic ?_
          refine wp_region_held_drew (S := fun w' => Below wr.heap.size wr w') (by kernel_rfl) ((Below.refl wr.heap.size wr).drew) (fun hHeld => ?_)
          refine takeD 0 84 (.int .i64 (c : Int)) (by exact rfl) rfl (by kernel_rfl) (by kernel_rfl) (by kernel_rfl) (fun _ _ _ h => h) (Or.inl ⟨by rfl, ?_⟩) (by assumption) ?_
          · intro wq hS
            go_simp
          try simp only [Act.put, List.setIfInBounds_toArray, List.set_cons_zero, List.set_cons_succ]
          refine takeD 1 85 (.int .i64 (u : Int)) (by exact rfl) rfl (by kernel_rfl) (by kernel_rfl) (by kernel_rfl) (fun _ _ _ h => h) (Or.inl ⟨by rfl, ?_⟩) (by assumption) ?_
          · intro wq hS
            go_simp
          try simp only [Act.put, List.setIfInBounds_toArray, List.set_cons_zero, List.set_cons_succ]
          refine takeD 2 86 (.pointer (some ⟨q + 1, 0, none⟩)) (by exact rfl) rfl (by kernel_rfl) (by kernel_rfl) (by kernel_rfl) (fun _ _ _ h => h) (Or.inl ⟨by rfl, ?_⟩) (by assumption) ?_
          · intro wq hS
            go_simp
          try simp only [Act.put, List.setIfInBounds_toArray, List.set_cons_zero, List.set_cons_succ]
          refine takeD 3 87 (.pointer (some ⟨q + 1, c * 8, none⟩)) (by exact rfl) rfl (by kernel_rfl) (by kernel_rfl) (by kernel_rfl) (fun _ _ _ h => h) (Or.inl ⟨by rfl, ?_⟩) (by assumption) ?_
          · intro wq hS
            go_simp
          try simp only [Act.put, List.setIfInBounds_toArray, List.set_cons_zero, List.set_cons_succ]
          refine takeD 4 88 (.pointer (some ⟨q + 1, c * 8 + u * 2, none⟩)) (by exact rfl) rfl (by kernel_rfl) (by kernel_rfl) (by kernel_rfl) (fun _ _ _ h => h) (Or.inl ⟨by rfl, ?_⟩) (by assumption) ?_
          · intro wq hS
            go_simp
          try simp only [Act.put, List.setIfInBounds_toArray, List.set_cons_zero, List.set_cons_succ]
          refine takeD 5 89 (.pointer (some ⟨q + 1, c * 8 + u * 2 + 1, none⟩)) (by exact rfl) rfl (by kernel_rfl) (by kernel_rfl) (by kernel_rfl) (fun _ _ _ h => h) (Or.inl ⟨by rfl, ?_⟩) (by assumption) ?_
          · intro wq hS
            go_simp
          try simp only [Act.put, List.setIfInBounds_toArray, List.set_cons_zero, List.set_cons_succ]
          refine takeD 6 90 (.slice am km cm) (by exact rfl) rfl (by kernel_rfl) (by kernel_rfl) (by kernel_rfl) (fun _ _ _ h => h) (Or.inl ⟨by rfl, ?_⟩) (by assumption) ?_
          · intro wq hS
            have e1 := (hS.cell (p := ⟨q + 1, c * 8 + u * 2 + 1, none⟩) HZL.out).trans HZ1.out
            go_simp
          try simp only [Act.put, List.setIfInBounds_toArray, List.set_cons_zero, List.set_cons_succ]
          clear hHeld
          refine wpAnyH_ready (rs := [7]) (by kernel_rfl) (by simp) ?_
          refine AllReadyH.cons (by exact rfl) (fun K hK => ?_) AllReadyH.nil
          go_simp
          refine (ten_ok 36 _ (by decide)).mono ?_
          rintro e w5 ⟨⟨rt, rfl, n5⟩, b5⟩
          have b5 : Below wr.heap.size wr w5 := ((Below.refl wr.heap.size wr).drew).trans b5
          have HT5 := (show Hid _ from n5)
          have HN5 := (show Hid _ from HNM.out.step b5)
          have HW5 := (show Hid _ from b5)
          clear n5 b5 HNM
          go_wp2_with fail
          refine hK.out _ _ HW5.out (fun hHeld => ?_)
          clear hK K hHeld
          try simp only [Act.put, List.setIfInBounds_toArray, List.set_cons_zero, List.set_cons_succ]
          refine wpAnyH_ready (rs := [8]) (by kernel_rfl) (by simp) ?_
          refine AllReadyH.cons (by exact rfl) (fun K hK => ?_) AllReadyH.nil
          go_simp
          refine (compare_ok _ _ _ _ _ HN5.out HT5.out).mono ?_
          rintro e w6 ⟨rfl, b6⟩
          have HW6 := (show Hid _ from HW5.out.trans (b6.mono HW5.out.size))
          clear b6 HW5 HN5 HT5
          go_wp2_with fail
          refine hK.out _ _ HW6.out (fun hHeld => ?_)
          clear hK K
          try simp only [Act.put, List.setIfInBounds_toArray, List.set_cons_zero, List.set_cons_succ]
          refine takeD 9 93 (.bool (out36 zz)) (by exact rfl) rfl (by kernel_rfl) (by kernel_rfl) (by kernel_rfl) (fun _ _ _ h => h) (Or.inl ⟨by rfl, ?_⟩) (by assumption) ?_
          · intro wq hS
            have q := HCM.out
            go_simp
          try simp only [Act.put, List.setIfInBounds_toArray, List.set_cons_zero, List.set_cons_succ]
          clear hHeld
          refine wpAnyH_done (by kernel_rfl) ?_ _
          refine NoPanic.normal ?_
          have HBX := (show Hid _ from HBu.out.trans (HW6.out.mono HBu.out.size))
          clear HW6 HZ1
          cases ho : out36 zz
          · have HOZ := (show Hid _ from ho)
            clear ho
            go_wp2_with fail
            refine ⟨⟨u + 1, by omega, by go_num, (fun i hi => ?_), HBX.out⟩, by simp [intOf]; omega⟩
            by_cases e : i = 4 * c + u
            · subst e; rw [← HZZ.out]; exact HOZ.out
            · exact HOu.out i (by omega)
          · have hc1 : 1 ≤ c := by
              rcases Nat.lt_or_ge c 1 with hlt | hge
              · exfalso
                rw [HZZ.out, nf_low HPL.out (by omega)] at ho
                exact absurd ho (by decide)
              · exact hge
            have hv : Va (c : Int) (u : Int) := by unfold Va; omega
            have HP : Hid (perr b ls = 4) := perr_4 HC0.out (rbad_yes hv (by
              have := nf_va (b := b) (ls := ls) hv
              rw [Int.toNat_natCast, Int.toNat_natCast] at this
              rw [← this, ← HZZ.out]; exact ho))
            have HBY : Hid (Below w.heap.size w w6) := HDB.out.trans (HBX.out.mono HDB.out.size)
            clear ho hv
            go_wp2_with fail
            go_ret
            exact ⟨by rw [HP.out]; rfl, (HD.out.step HBY.out).no (by rw [HP.out]; decide), below_but HBY.out _⟩
    have hk' : k < N := by omega
    obtain ⟨x, hx⟩ : ∃ x, ls[k]? = some x := ⟨ls[k]'(by have := HNN.out; omega), by simp⟩
    have hgx := HK.out.wf x (List.mem_of_getElem? hx)
    obtain ⟨bb, off, e, hb, hc⟩ := (HK.out.sl.step (w' := wr) (by rw [HQ.out]; exact HB.out)).at k x hx
    cases e
    have c0 : wr.cell? ⟨bb, off + k * 5, none⟩ = some (.int .i64 x.code) := hc 0 _ rfl
    have c1 : wr.cell? ⟨bb, off + k * 5 + 1, none⟩ = some (.int .i64 x.cur) := hc 1 _ rfl
    have c2 : wr.cell? ⟨bb, off + k * 5 + 2, none⟩ = some (.int .i64 x.h) := hc 2 _ rfl
    have c3 : wr.cell? ⟨bb, off + k * 5 + 3, none⟩ = some (.int .u64 x.l) := hc 3 _ rfl
    have c4 : wr.cell? ⟨bb, off + k * 5 + 4, none⟩ = some (.int .i64 x.s) := hc 4 _ rfl
    have d1 : (0 : Int) ≤ (k : Int) := by omega
    have d2 : (k : Int) < (N : Int) := by omega
    have hts := take_snoc hx
    have HAL : Hid ((ls.take (k + 1)).all (fun x => x.ok) = ((ls.take k).all (fun x => x.ok) && x.ok)) := (show _ = _ by rw [hts]; simp)
    have HOK : Hid (okl (ls.take (k + 1)) = if x.ok then okl (ls.take k) ++ [x] else okl (ls.take k)) := (show _ = _ by rw [hts, okl_snoc])
    have HPN : Hid (x.pl = true → ∀ y ∈ ls.take (k + 1), y.pl = true) := fun hp => take_next HPL.out hx hp
    have HPB : Hid (x.pl = false → cherr ls = 1) := fun hp => cherr_1 hx hp
    have HUN := (show Hid _ from fun w => units_any x hgx w)
    have HUMI : Hid (x.ok = true → Mi x.un) := fun ho => un_mi hgx ho
    have HVX : Hid (x.pl = true → Va x.code x.cur) := fun hp => Ln.va hp
    have hplx : x.pl = (wi x.code 1 8 && wi x.cur 0 3) := rfl
    clear hc hb hx hgx hts
    go_wp2_with fail
    refine (is_ok _ _ _).mono ?_
    rintro e w1 ⟨rfl, hq1⟩
    obtain rfl := hq1.symm
    rw [← hplx]
    clear hplx
    cases hp : x.pl
    · have HP := (show Hid _ from HPB.out hp)
      clear hp
      go_wp2_with fail
      go_ret
      exact ⟨by rw [perr_c (by rw [HP.out]; decide), HP.out]; rfl, (HD.out.step (by rw [HQ.out]; exact HB.out.alloc (by have := HB.out.size; have := HQ.out; omega) _)).no (by rw [perr_c (by rw [HP.out]; decide), HP.out]; decide), below_but (by rw [HQ.out]; exact HB.out.alloc (by have := HB.out.size; have := HQ.out; omega) _) _⟩
    have hv := HVX.out hp
    have HPK := (show Hid _ from HPN.out hp)
    clear hp HPN HPB HVX
    generalize ho : x.ok = ok at *
    obtain ⟨un, hun⟩ : ∃ un, un = x.un := ⟨_, rfl⟩
    rw [← hun] at HUN HUMI
    have HE1 : Hid (∀ (l : List Ln) (u' : Int), sau (l ++ [x]) u' = sau l u' + if x.cur = u' then un else 0) := fun l u' => by rw [sau_snoc, hun]
    have HE2 : Hid (∀ (l : List Ln) (c' u' : Int), sat (l ++ [x]) c' u' = sat l c' u' + if x.code = c' ∧ x.cur = u' then un else 0) := fun l c' u' => by rw [sat_snoc, hun]
    obtain ⟨x0, x1, x2, x3, x4⟩ := x
    clear hun ho
    simp only at hv HE1 HE2 HUN c0 c1 c2 c3 c4
    obtain ⟨c, rfl⟩ : ∃ c : Nat, x0 = (c : Int) := ⟨x0.toNat, by have := hv.1; omega⟩
    obtain ⟨u, rfl⟩ : ∃ u : Nat, x1 = (u : Int) := ⟨x1.toNat, by have := hv.2.2.1; omega⟩
    have hcu : 1 ≤ c ∧ c ≤ 8 ∧ u ≤ 3 := by have h1 := hv.1; have h2 := hv.2.1; have h3 := hv.2.2.2; omega
    have j1 : (0 : Int) ≤ (c : Int) := by omega
    have j2 : (c : Int) < 9 := by omega
    have j3 : (0 : Int) ≤ (u : Int) := by omega
    have j4 : (u : Int) < 4 := by omega
    have HCU := (show Hid _ from hcu)
    clear hv
    go_wp2_with fail
    refine (HUN.out _).mono ?_
    rintro e w3 ⟨⟨m, a, nn, kk, rfl, hin⟩, b3⟩
    have b3' := below_over b3
    have V9w3 := (show Hid _ from (va_new wr [.int .i64 (c : Int), .int .i64 (u : Int), .int .i64 x2, .int .u64 x3, .int .i64 x4] 39).step b3)
    have HI3 := (show Hid _ from hin)
    have HSw3 := (show Hid _ from HS.out.step b3')
    have HXw3 := (show Hid _ from HX.out.step b3')
    have HBw3 := (show Hid _ from HB.out.trans (b3'.mono (by have := HB.out.size; have := HQ.out; omega)))
    have BA := (Below.refl w3.heap.size w3).alloc (Nat.le_refl _) (.cells #[.bool m, .slice a nn kk] 29)
    have V9w4 := (show Hid _ from V9w3.out.step BA)
    have V10w4 : Hid (VA (w3.alloc (.cells #[.bool m, .slice a nn kk] 29)) w3.heap.size [.bool m, .slice a nn kk] 29) := va_new w3 [.bool m, .slice a nn kk] 29
    have HSw4 := (show Hid _ from HSw3.out.step BA)
    have HXw4 := (show Hid _ from HXw3.out.step BA)
    have HI4 : Hid (ok = true → In (w3.alloc (.cells #[.bool m, .slice a nn kk] 29)) (.agg #[.bool m, .slice a nn kk]) un) := fun h => (HI3.out h).step BA
    have HBw4 := (show Hid _ from HBw3.out.trans (BA.mono (by have := HBw3.out.size; have := HQ.out; omega)))
    have HQ9 : Hid (q + 1 < wr.heap.size ∧ q + 1 < w3.heap.size) := ⟨HX.out.lt, HXw3.out.lt⟩
    clear b3 b3' hin BA V9w3 HI3 HSw3 HXw3 HBw3 HS HX HB c0 c1 c2 c3 c4 HUN
    generalize hfl : (ls.take k).all (fun x => x.ok) = fl at *
    clear hfl
    cases ok
    · cases fl
      · go_wp2_with fail
        refine ⟨⟨k + 1, by omega, by go_num, ?_, HPK.out, ?_, ?_, HBw4.out⟩, by simp [intOf]; omega⟩
        · rw [HAL.out]; simp
        · have e := HOK.out
          rw [show okl (ls.take (k + 1)) = okl (ls.take k) by simpa using e]; exact HSw4.out
        · have e := HOK.out
          rw [show okl (ls.take (k + 1)) = okl (ls.take k) by simpa using e]; exact HXw4.out
      · go_wp2_with fail
        refine ⟨⟨k + 1, by omega, by go_num, ?_, HPK.out, ?_, ?_, HBw4.out⟩, by simp [intOf]; omega⟩
        · rw [HAL.out]; simp
        · have e := HOK.out
          rw [show okl (ls.take (k + 1)) = okl (ls.take k) by simpa using e]; exact HSw4.out
        · have e := HOK.out
          rw [show okl (ls.take (k + 1)) = okl (ls.take k) by simpa using e]; exact HXw4.out
    · cases fl
      · have HIw4 := (show Hid _ from HI4.out rfl)
        have HUM := (show Hid _ from HUMI.out rfl)
        clear HI4 HUMI
        go_upto_region 14 with fail
        generalize wr.heap.size = q9 at *
        generalize w3.heap.size = q10 at *
        generalize w3.alloc (.cells #[.bool m, .slice a nn kk] 29) = w4 at *
        refine wp_region_noPanic ?_
        refine wp_region_held_drew (S := fun w' => VA w' q9 [.int .i64 (c : Int), .int .i64 (u : Int), .int .i64 x2, .int .u64 x3, .int .i64 x4] 39 ∧ VA w' q10 [.bool m, .slice a nn kk] 29) (by kernel_rfl) ⟨V9w4.out.drew, V10w4.out.drew⟩ (fun hHeld => ?_)
        refine takeD 0 44 (.pointer (some ⟨q9, 1, none⟩)) (by exact rfl) rfl (by kernel_rfl) (by kernel_rfl) (by kernel_rfl) (fun _ _ _ h => h) (Or.inl ⟨by rfl, ?_⟩) (by assumption) ?_
        · intro wq hS
          go_simp
        try simp only [Act.put, List.setIfInBounds_toArray, List.set_cons_zero, List.set_cons_succ]
        refine takeD 1 45 (.int .i64 (u : Int)) (by exact rfl) rfl (by kernel_rfl) (by kernel_rfl) (by kernel_rfl) (fun _ _ _ h => h) (Or.inl ⟨by rfl, ?_⟩) (by assumption) ?_
        · intro wq hS
          have e0 := hS.1.cell 1 (v := .int .i64 (u : Int)) rfl
          go_simp
        try simp only [Act.put, List.setIfInBounds_toArray, List.set_cons_zero, List.set_cons_succ]
        refine takeD 2 46 (.pointer (some ⟨q9, 1, none⟩)) (by exact rfl) rfl (by kernel_rfl) (by kernel_rfl) (by kernel_rfl) (fun _ _ _ h => h) (Or.inl ⟨by rfl, ?_⟩) (by assumption) ?_
        · intro wq hS
          go_simp
        try simp only [Act.put, List.setIfInBounds_toArray, List.set_cons_zero, List.set_cons_succ]
        refine takeD 3 47 (.int .i64 (u : Int)) (by exact rfl) rfl (by kernel_rfl) (by kernel_rfl) (by kernel_rfl) (fun _ _ _ h => h) (Or.inl ⟨by rfl, ?_⟩) (by assumption) ?_
        · intro wq hS
          have e0 := hS.1.cell 1 (v := .int .i64 (u : Int)) rfl
          go_simp
        try simp only [Act.put, List.setIfInBounds_toArray, List.set_cons_zero, List.set_cons_succ]
        refine takeD 4 48 (.pointer (some ⟨q, u * 2, none⟩)) (by exact rfl) rfl (by kernel_rfl) (by kernel_rfl) (by kernel_rfl) (fun _ _ _ h => h) (Or.inl ⟨by rfl, ?_⟩) (by assumption) ?_
        · intro wq hS
          go_simp
        try simp only [Act.put, List.setIfInBounds_toArray, List.set_cons_zero, List.set_cons_succ]
        refine takeD 6 50 (.agg #[.bool m, .slice a nn kk]) (by exact rfl) rfl (by kernel_rfl) (by kernel_rfl) (by kernel_rfl) (fun _ _ _ h => h) (Or.inl ⟨by rfl, ?_⟩) (by assumption) ?_
        · intro wq hS
          have e0 := hS.2.cell 0 (v := .bool m) rfl
          have e1 := hS.2.cell 1 (v := .slice a nn kk) rfl
          go_simp
        try simp only [Act.put, List.setIfInBounds_toArray, List.set_cons_zero, List.set_cons_succ]
        clear hHeld
        obtain ⟨mm, am, km, cm, z0, z1, zi⟩ := (HSw4.out.step (Below.refl w4.heap.size w4).drew).at (u) (by omega)
        have HZI := (show Hid _ from zi)
        clear zi
        refine wpAnyH_ready (rs := [5]) (by kernel_rfl) (by simp) ?_
        refine AllReadyH.cons (by exact rfl) (fun K hK => ?_) AllReadyH.nil
        go_simp
        clear z0 z1
        refine hK.out _ _ ⟨V9w4.out.drew, V10w4.out.drew⟩ (fun hHeld => ?_)
        clear hK K hHeld
        try simp only [Act.put, List.setIfInBounds_toArray, List.set_cons_zero, List.set_cons_succ]
        refine wpAnyH_ready (rs := [7]) (by kernel_rfl) (by simp) ?_
        refine AllReadyH.cons (by exact rfl) (fun K hK => ?_) AllReadyH.nil
        go_simp
        refine (sum_in _ _ _ _ _ HZI.out (HIw4.out.drew) (sau_mi (fun y hy => HK.out.wf y (List.mem_of_mem_take hy)) (by rw [List.length_take]; have := HK.out.sz; omega) _) HUM.out).mono ?_
        rintro e w5 ⟨⟨r5, rfl, i5⟩, b5⟩
        have b5 : Below w4.heap.size w4 w5 := ((Below.refl w4.heap.size w4).drew).trans b5
        obtain ⟨mr, ar, nr, cr, rfl, _⟩ := i5.form
        have HR5 := (show Hid _ from i5)
        have V9w5 := (show Hid _ from V9w4.out.step b5)
        have V10w5 := (show Hid _ from V10w4.out.step b5)
        have F5 := (show Hid _ from HSw4.out.step b5)
        have G5 := (show Hid _ from HXw4.out.step b5)
        have HIw5 := (show Hid _ from HIw4.out.step b5)
        have HBw5 := (show Hid _ from HBw4.out.trans (b5.mono (by have := HBw4.out.size; have := HQ.out; omega)))
        clear b5 i5 HZI V9w4 V10w4 HIw4 HBw4 HSw4 HXw4
        go_wp2_with fail
        refine hK.out _ _ ⟨V9w5.out, V10w5.out⟩ (fun hHeld => ?_)
        clear hK K
        try simp only [Act.put, List.setIfInBounds_toArray, List.set_cons_zero, List.set_cons_succ]
        refine takeD 8 52 (.pointer (some ⟨q, u * 2, none⟩)) (by exact rfl) rfl (by kernel_rfl) (by kernel_rfl) (by kernel_rfl) (fun _ _ _ h => h) (Or.inl ⟨by rfl, ?_⟩) (by assumption) ?_
        · intro wq hS
          go_simp
        try simp only [Act.put, List.setIfInBounds_toArray, List.set_cons_zero, List.set_cons_succ]
        clear hHeld
        refine wpAnyH_ready (rs := [9]) (by kernel_rfl) (by simp) ?_
        refine AllReadyH.cons (by exact rfl) (fun K hK => ?_) AllReadyH.nil
        refine stMid (by rfl) (by rfl) 29 _ _ (by rfl) q (u * 2) [.bool mr, .slice ar nr cr] (by rfl) (by rfl) (F5.out.there (u) (by omega)) infoIn (int_one _ _ _ _) ?_
        have S5 := F5.out.set (by decide) (u) (by omega) HR5.out
        have U5 := setCells_but w5 q (u * 2) [.bool mr, .slice ar nr cr]
        have KU5 : KeepU w5 (w5.setCells q (u * 2) [.bool mr, .slice ar nr cr]) := by
          obtain ⟨cs, h1, _⟩ := F5.out.ex
          exact U5.keepU h1 (by decide)
        have V9w5s := (show Hid _ from V9w5.out.but U5 (fun (e : q9 = q) => by have := HQ9.out; omega))
        have V10w5s := (show Hid _ from V10w5.out.but U5 (fun (e : q10 = q) => by have := HQ9.out; omega))
        have F5s := (show Hid _ from S5)
        have G5s := (show Hid _ from G5.out.mv (U5.block _ G5.out.lt (by omega)) KU5)
        have HIw5s := (show Hid _ from HIw5.out.keepU KU5)
        have HBw5s := (show Hid _ from HBw5.out.trans (U5.below (by have := HBw5.out.size; have := HQ.out; omega) (fun i (hi : i = q) => by omega)))
        refine hK.out _ _ ⟨V9w5s.out, V10w5s.out⟩ (fun hHeld => ?_)
        clear hK K hHeld S5 U5 KU5 V9w5 V10w5 F5 G5 HIw5 HBw5 HR5
        refine wpAnyH_done (by kernel_rfl) ?_ _
        refine NoPanic.normal ?_
        go_upto_region 15 with fail
        generalize w5.setCells q (u * 2) [.bool mr, .slice ar nr cr] = w5s at *
        refine wp_region_noPanic ?_
        refine wp_region_held_drew (S := fun w' => VA w' q9 [.int .i64 (c : Int), .int .i64 (u : Int), .int .i64 x2, .int .u64 x3, .int .i64 x4] 39 ∧ VA w' q10 [.bool m, .slice a nn kk] 29) (by kernel_rfl) ⟨V9w5s.out.drew, V10w5s.out.drew⟩ (fun hHeld => ?_)
        refine takeD 0 53 (.pointer (some ⟨q9, 0, none⟩)) (by exact rfl) rfl (by kernel_rfl) (by kernel_rfl) (by kernel_rfl) (fun _ _ _ h => h) (Or.inl ⟨by rfl, ?_⟩) (by assumption) ?_
        · intro wq hS
          go_simp
        try simp only [Act.put, List.setIfInBounds_toArray, List.set_cons_zero, List.set_cons_succ]
        refine takeD 1 54 (.int .i64 (c : Int)) (by exact rfl) rfl (by kernel_rfl) (by kernel_rfl) (by kernel_rfl) (fun _ _ _ h => h) (Or.inl ⟨by rfl, ?_⟩) (by assumption) ?_
        · intro wq hS
          have e0 := hS.1.cell 0 (v := .int .i64 (c : Int)) rfl
          go_simp
        try simp only [Act.put, List.setIfInBounds_toArray, List.set_cons_zero, List.set_cons_succ]
        refine takeD 2 55 (.pointer (some ⟨q9, 1, none⟩)) (by exact rfl) rfl (by kernel_rfl) (by kernel_rfl) (by kernel_rfl) (fun _ _ _ h => h) (Or.inl ⟨by rfl, ?_⟩) (by assumption) ?_
        · intro wq hS
          go_simp
        try simp only [Act.put, List.setIfInBounds_toArray, List.set_cons_zero, List.set_cons_succ]
        refine takeD 3 56 (.int .i64 (u : Int)) (by exact rfl) rfl (by kernel_rfl) (by kernel_rfl) (by kernel_rfl) (fun _ _ _ h => h) (Or.inl ⟨by rfl, ?_⟩) (by assumption) ?_
        · intro wq hS
          have e0 := hS.1.cell 1 (v := .int .i64 (u : Int)) rfl
          go_simp
        try simp only [Act.put, List.setIfInBounds_toArray, List.set_cons_zero, List.set_cons_succ]
        refine takeD 4 57 (.pointer (some ⟨q9, 0, none⟩)) (by exact rfl) rfl (by kernel_rfl) (by kernel_rfl) (by kernel_rfl) (fun _ _ _ h => h) (Or.inl ⟨by rfl, ?_⟩) (by assumption) ?_
        · intro wq hS
          go_simp
        try simp only [Act.put, List.setIfInBounds_toArray, List.set_cons_zero, List.set_cons_succ]
        refine takeD 5 58 (.int .i64 (c : Int)) (by exact rfl) rfl (by kernel_rfl) (by kernel_rfl) (by kernel_rfl) (fun _ _ _ h => h) (Or.inl ⟨by rfl, ?_⟩) (by assumption) ?_
        · intro wq hS
          have e0 := hS.1.cell 0 (v := .int .i64 (c : Int)) rfl
          go_simp
        try simp only [Act.put, List.setIfInBounds_toArray, List.set_cons_zero, List.set_cons_succ]
        refine takeD 6 59 (.pointer (some ⟨q9, 1, none⟩)) (by exact rfl) rfl (by kernel_rfl) (by kernel_rfl) (by kernel_rfl) (fun _ _ _ h => h) (Or.inl ⟨by rfl, ?_⟩) (by assumption) ?_
        · intro wq hS
          go_simp
        try simp only [Act.put, List.setIfInBounds_toArray, List.set_cons_zero, List.set_cons_succ]
        refine takeD 7 60 (.int .i64 (u : Int)) (by exact rfl) rfl (by kernel_rfl) (by kernel_rfl) (by kernel_rfl) (fun _ _ _ h => h) (Or.inl ⟨by rfl, ?_⟩) (by assumption) ?_
        · intro wq hS
          have e0 := hS.1.cell 1 (v := .int .i64 (u : Int)) rfl
          go_simp
        try simp only [Act.put, List.setIfInBounds_toArray, List.set_cons_zero, List.set_cons_succ]
        refine takeD 8 61 (.pointer (some ⟨q + 1, 0, none⟩)) (by exact rfl) rfl (by kernel_rfl) (by kernel_rfl) (by kernel_rfl) (fun _ _ _ h => h) (Or.inl ⟨by rfl, ?_⟩) (by assumption) ?_
        · intro wq hS
          go_simp
        try simp only [Act.put, List.setIfInBounds_toArray, List.set_cons_zero, List.set_cons_succ]
        refine takeD 9 62 (.pointer (some ⟨q + 1, c * 8, none⟩)) (by exact rfl) rfl (by kernel_rfl) (by kernel_rfl) (by kernel_rfl) (fun _ _ _ h => h) (Or.inl ⟨by rfl, ?_⟩) (by assumption) ?_
        · intro wq hS
          go_simp
        try simp only [Act.put, List.setIfInBounds_toArray, List.set_cons_zero, List.set_cons_succ]
        refine takeD 10 63 (.pointer (some ⟨q + 1, c * 8 + u * 2, none⟩)) (by exact rfl) rfl (by kernel_rfl) (by kernel_rfl) (by kernel_rfl) (fun _ _ _ h => h) (Or.inl ⟨by rfl, ?_⟩) (by assumption) ?_
        · intro wq hS
          go_simp
        try simp only [Act.put, List.setIfInBounds_toArray, List.set_cons_zero, List.set_cons_succ]
        refine takeD 12 65 (.agg #[.bool m, .slice a nn kk]) (by exact rfl) rfl (by kernel_rfl) (by kernel_rfl) (by kernel_rfl) (fun _ _ _ h => h) (Or.inl ⟨by rfl, ?_⟩) (by assumption) ?_
        · intro wq hS
          have e0 := hS.2.cell 0 (v := .bool m) rfl
          have e1 := hS.2.cell 1 (v := .slice a nn kk) rfl
          go_simp
        try simp only [Act.put, List.setIfInBounds_toArray, List.set_cons_zero, List.set_cons_succ]
        refine takeD 14 67 (.pointer (some ⟨q + 1, 0, none⟩)) (by exact rfl) rfl (by kernel_rfl) (by kernel_rfl) (by kernel_rfl) (fun _ _ _ h => h) (Or.inl ⟨by rfl, ?_⟩) (by assumption) ?_
        · intro wq hS
          go_simp
        try simp only [Act.put, List.setIfInBounds_toArray, List.set_cons_zero, List.set_cons_succ]
        refine takeD 15 68 (.pointer (some ⟨q + 1, c * 8, none⟩)) (by exact rfl) rfl (by kernel_rfl) (by kernel_rfl) (by kernel_rfl) (fun _ _ _ h => h) (Or.inl ⟨by rfl, ?_⟩) (by assumption) ?_
        · intro wq hS
          go_simp
        try simp only [Act.put, List.setIfInBounds_toArray, List.set_cons_zero, List.set_cons_succ]
        clear hHeld
        obtain ⟨mm, am, km, cm, z0, z1, zi⟩ := (G5s.out.step (Below.refl w5s.heap.size w5s).drew).at (4 * c + u) (by omega)
        rw [show (4 * c + u) * 2 = c * 8 + u * 2 by omega] at z0 z1
        have HZI := (show Hid _ from zi)
        clear zi
        refine wpAnyH_ready (rs := [11]) (by kernel_rfl) (by simp) ?_
        refine AllReadyH.cons (by exact rfl) (fun K hK => ?_) AllReadyH.nil
        go_simp
        clear z0 z1
        refine hK.out _ _ ⟨V9w5s.out.drew, V10w5s.out.drew⟩ (fun hHeld => ?_)
        clear hK K hHeld
        try simp only [Act.put, List.setIfInBounds_toArray, List.set_cons_zero, List.set_cons_succ]
        refine wpAnyH_ready (rs := [13]) (by kernel_rfl) (by simp) ?_
        refine AllReadyH.cons (by exact rfl) (fun K hK => ?_) AllReadyH.nil
        go_simp
        refine (sum_in _ _ _ _ _ HZI.out (HIw5s.out.drew) (nf_mi HRG.out (fun y hy => HK.out.wf y (List.mem_of_mem_take hy)) (by rw [List.length_take]; have := HK.out.sz; omega) _ (by omega)) HUM.out).mono ?_
        rintro e w6 ⟨⟨r6, rfl, i6⟩, b6⟩
        have b6 : Below w5s.heap.size w5s w6 := ((Below.refl w5s.heap.size w5s).drew).trans b6
        obtain ⟨mr, ar, nr, cr, rfl, _⟩ := i6.form
        have HR6 := (show Hid _ from i6)
        have V9w6 := (show Hid _ from V9w5s.out.step b6)
        have V10w6 := (show Hid _ from V10w5s.out.step b6)
        have F6 := (show Hid _ from G5s.out.step b6)
        have G6 := (show Hid _ from F5s.out.step b6)
        have HIw6 := (show Hid _ from HIw5s.out.step b6)
        have HBw6 := (show Hid _ from HBw5s.out.trans (b6.mono (by have := HBw5s.out.size; have := HQ.out; omega)))
        clear b6 i6 HZI V9w5s V10w5s HIw5s HBw5s G5s F5s
        go_wp2_with fail
        refine hK.out _ _ ⟨V9w6.out, V10w6.out⟩ (fun hHeld => ?_)
        clear hK K
        try simp only [Act.put, List.setIfInBounds_toArray, List.set_cons_zero, List.set_cons_succ]
        refine takeD 16 69 (.pointer (some ⟨q + 1, c * 8 + u * 2, none⟩)) (by exact rfl) rfl (by kernel_rfl) (by kernel_rfl) (by kernel_rfl) (fun _ _ _ h => h) (Or.inl ⟨by rfl, ?_⟩) (by assumption) ?_
        · intro wq hS
          go_simp
        try simp only [Act.put, List.setIfInBounds_toArray, List.set_cons_zero, List.set_cons_succ]
        clear hHeld
        refine wpAnyH_ready (rs := [17]) (by kernel_rfl) (by simp) ?_
        refine AllReadyH.cons (by exact rfl) (fun K hK => ?_) AllReadyH.nil
        refine stMid (by rfl) (by rfl) 29 _ _ (by rfl) (q + 1) (c * 8 + u * 2) [.bool mr, .slice ar nr cr] (by rfl) (by rfl) ((by have := F6.out.there (4 * c + u) (by omega); rwa [show (4 * c + u) * 2 = c * 8 + u * 2 by omega] at this)) infoIn (int_one _ _ _ _) ?_
        have S6 := F6.out.set (by decide) (4 * c + u) (by omega) HR6.out
        rw [show (4 * c + u) * 2 = c * 8 + u * 2 by omega] at S6
        have U6 := setCells_but w6 (q + 1) (c * 8 + u * 2) [.bool mr, .slice ar nr cr]
        have KU6 : KeepU w6 (w6.setCells (q + 1) (c * 8 + u * 2) [.bool mr, .slice ar nr cr]) := by
          obtain ⟨cs, h1, _⟩ := F6.out.ex
          exact U6.keepU h1 (by decide)
        have V9w6s := (show Hid _ from V9w6.out.but U6 (fun (e : q9 = (q + 1)) => by have := HQ9.out; omega))
        have V10w6s := (show Hid _ from V10w6.out.but U6 (fun (e : q10 = (q + 1)) => by have := HQ9.out; omega))
        have F6s := (show Hid _ from S6)
        have G6s := (show Hid _ from G6.out.mv (U6.block _ G6.out.lt (by omega)) KU6)
        have HIw6s := (show Hid _ from HIw6.out.keepU KU6)
        have HBw6s := (show Hid _ from HBw6.out.trans (U6.below (by have := HBw6.out.size; have := HQ.out; omega) (fun i (hi : i = (q + 1)) => by omega)))
        refine hK.out _ _ ⟨V9w6s.out, V10w6s.out⟩ (fun hHeld => ?_)
        clear hK K hHeld S6 U6 KU6 V9w6 V10w6 F6 G6 HIw6 HBw6 HR6
        refine wpAnyH_done (by kernel_rfl) ?_ _
        refine NoPanic.normal ?_
        go_wp2_with fail
        refine ⟨⟨k + 1, by omega, by go_num, ?_, HPK.out, ?_, ?_, HBw6s.out⟩, by simp [intOf]; omega⟩
        · rw [HAL.out]; simp
        · have e := HOK.out
          rw [show okl (ls.take (k + 1)) = okl (ls.take k) ++ [⟨(c : Int), (u : Int), x2, x3, x4⟩] by simpa using e]
          refine G6s.out.congr (g := fun i => sau (okl (ls.take k) ++ [⟨(c : Int), (u : Int), x2, x3, x4⟩]) (i : Int)) (fun i hi => ?_)
          show _ = sau (okl (ls.take k) ++ [⟨(c : Int), (u : Int), x2, x3, x4⟩]) (i : Int)
          rw [HE1.out]
          by_cases e : i = u
          · subst e; rw [if_pos rfl, if_pos rfl]
          · rw [if_neg e, if_neg (fun e' => e (by omega)), Int.add_zero]
        · have e := HOK.out
          rw [show okl (ls.take (k + 1)) = okl (ls.take k) ++ [⟨(c : Int), (u : Int), x2, x3, x4⟩] by simpa using e]
          refine F6s.out.congr (g := nf b (okl (ls.take k) ++ [⟨(c : Int), (u : Int), x2, x3, x4⟩])) (fun i hi => ?_)
          unfold nf
          rw [HE2.out]
          by_cases e : i = 4 * c + u
          · subst e
            rw [if_pos rfl, show (4 * c + u) / 4 = c by have := HCU.out; omega, show (4 * c + u) % 4 = u by have := HCU.out; omega, if_pos ⟨rfl, rfl⟩, Int.add_assoc]
          · rw [if_neg e, if_neg (fun e' => e (by have := HCU.out; omega)), Int.add_zero]
      · have HIw4 := (show Hid _ from HI4.out rfl)
        have HUM := (show Hid _ from HUMI.out rfl)
        clear HI4 HUMI
        go_upto_region 14 with fail
        generalize wr.heap.size = q9 at *
        generalize w3.heap.size = q10 at *
        generalize w3.alloc (.cells #[.bool m, .slice a nn kk] 29) = w4 at *
        refine wp_region_noPanic ?_
        refine wp_region_held_drew (S := fun w' => VA w' q9 [.int .i64 (c : Int), .int .i64 (u : Int), .int .i64 x2, .int .u64 x3, .int .i64 x4] 39 ∧ VA w' q10 [.bool m, .slice a nn kk] 29) (by kernel_rfl) ⟨V9w4.out.drew, V10w4.out.drew⟩ (fun hHeld => ?_)
        refine takeD 0 44 (.pointer (some ⟨q9, 1, none⟩)) (by exact rfl) rfl (by kernel_rfl) (by kernel_rfl) (by kernel_rfl) (fun _ _ _ h => h) (Or.inl ⟨by rfl, ?_⟩) (by assumption) ?_
        · intro wq hS
          go_simp
        try simp only [Act.put, List.setIfInBounds_toArray, List.set_cons_zero, List.set_cons_succ]
        refine takeD 1 45 (.int .i64 (u : Int)) (by exact rfl) rfl (by kernel_rfl) (by kernel_rfl) (by kernel_rfl) (fun _ _ _ h => h) (Or.inl ⟨by rfl, ?_⟩) (by assumption) ?_
        · intro wq hS
          have e0 := hS.1.cell 1 (v := .int .i64 (u : Int)) rfl
          go_simp
        try simp only [Act.put, List.setIfInBounds_toArray, List.set_cons_zero, List.set_cons_succ]
        refine takeD 2 46 (.pointer (some ⟨q9, 1, none⟩)) (by exact rfl) rfl (by kernel_rfl) (by kernel_rfl) (by kernel_rfl) (fun _ _ _ h => h) (Or.inl ⟨by rfl, ?_⟩) (by assumption) ?_
        · intro wq hS
          go_simp
        try simp only [Act.put, List.setIfInBounds_toArray, List.set_cons_zero, List.set_cons_succ]
        refine takeD 3 47 (.int .i64 (u : Int)) (by exact rfl) rfl (by kernel_rfl) (by kernel_rfl) (by kernel_rfl) (fun _ _ _ h => h) (Or.inl ⟨by rfl, ?_⟩) (by assumption) ?_
        · intro wq hS
          have e0 := hS.1.cell 1 (v := .int .i64 (u : Int)) rfl
          go_simp
        try simp only [Act.put, List.setIfInBounds_toArray, List.set_cons_zero, List.set_cons_succ]
        refine takeD 4 48 (.pointer (some ⟨q, u * 2, none⟩)) (by exact rfl) rfl (by kernel_rfl) (by kernel_rfl) (by kernel_rfl) (fun _ _ _ h => h) (Or.inl ⟨by rfl, ?_⟩) (by assumption) ?_
        · intro wq hS
          go_simp
        try simp only [Act.put, List.setIfInBounds_toArray, List.set_cons_zero, List.set_cons_succ]
        refine takeD 6 50 (.agg #[.bool m, .slice a nn kk]) (by exact rfl) rfl (by kernel_rfl) (by kernel_rfl) (by kernel_rfl) (fun _ _ _ h => h) (Or.inl ⟨by rfl, ?_⟩) (by assumption) ?_
        · intro wq hS
          have e0 := hS.2.cell 0 (v := .bool m) rfl
          have e1 := hS.2.cell 1 (v := .slice a nn kk) rfl
          go_simp
        try simp only [Act.put, List.setIfInBounds_toArray, List.set_cons_zero, List.set_cons_succ]
        clear hHeld
        obtain ⟨mm, am, km, cm, z0, z1, zi⟩ := (HSw4.out.step (Below.refl w4.heap.size w4).drew).at (u) (by omega)
        have HZI := (show Hid _ from zi)
        clear zi
        refine wpAnyH_ready (rs := [5]) (by kernel_rfl) (by simp) ?_
        refine AllReadyH.cons (by exact rfl) (fun K hK => ?_) AllReadyH.nil
        go_simp
        clear z0 z1
        refine hK.out _ _ ⟨V9w4.out.drew, V10w4.out.drew⟩ (fun hHeld => ?_)
        clear hK K hHeld
        try simp only [Act.put, List.setIfInBounds_toArray, List.set_cons_zero, List.set_cons_succ]
        refine wpAnyH_ready (rs := [7]) (by kernel_rfl) (by simp) ?_
        refine AllReadyH.cons (by exact rfl) (fun K hK => ?_) AllReadyH.nil
        go_simp
        refine (sum_in _ _ _ _ _ HZI.out (HIw4.out.drew) (sau_mi (fun y hy => HK.out.wf y (List.mem_of_mem_take hy)) (by rw [List.length_take]; have := HK.out.sz; omega) _) HUM.out).mono ?_
        rintro e w5 ⟨⟨r5, rfl, i5⟩, b5⟩
        have b5 : Below w4.heap.size w4 w5 := ((Below.refl w4.heap.size w4).drew).trans b5
        obtain ⟨mr, ar, nr, cr, rfl, _⟩ := i5.form
        have HR5 := (show Hid _ from i5)
        have V9w5 := (show Hid _ from V9w4.out.step b5)
        have V10w5 := (show Hid _ from V10w4.out.step b5)
        have F5 := (show Hid _ from HSw4.out.step b5)
        have G5 := (show Hid _ from HXw4.out.step b5)
        have HIw5 := (show Hid _ from HIw4.out.step b5)
        have HBw5 := (show Hid _ from HBw4.out.trans (b5.mono (by have := HBw4.out.size; have := HQ.out; omega)))
        clear b5 i5 HZI V9w4 V10w4 HIw4 HBw4 HSw4 HXw4
        go_wp2_with fail
        refine hK.out _ _ ⟨V9w5.out, V10w5.out⟩ (fun hHeld => ?_)
        clear hK K
        try simp only [Act.put, List.setIfInBounds_toArray, List.set_cons_zero, List.set_cons_succ]
        refine takeD 8 52 (.pointer (some ⟨q, u * 2, none⟩)) (by exact rfl) rfl (by kernel_rfl) (by kernel_rfl) (by kernel_rfl) (fun _ _ _ h => h) (Or.inl ⟨by rfl, ?_⟩) (by assumption) ?_
        · intro wq hS
          go_simp
        try simp only [Act.put, List.setIfInBounds_toArray, List.set_cons_zero, List.set_cons_succ]
        clear hHeld
        refine wpAnyH_ready (rs := [9]) (by kernel_rfl) (by simp) ?_
        refine AllReadyH.cons (by exact rfl) (fun K hK => ?_) AllReadyH.nil
        refine stMid (by rfl) (by rfl) 29 _ _ (by rfl) q (u * 2) [.bool mr, .slice ar nr cr] (by rfl) (by rfl) (F5.out.there (u) (by omega)) infoIn (int_one _ _ _ _) ?_
        have S5 := F5.out.set (by decide) (u) (by omega) HR5.out
        have U5 := setCells_but w5 q (u * 2) [.bool mr, .slice ar nr cr]
        have KU5 : KeepU w5 (w5.setCells q (u * 2) [.bool mr, .slice ar nr cr]) := by
          obtain ⟨cs, h1, _⟩ := F5.out.ex
          exact U5.keepU h1 (by decide)
        have V9w5s := (show Hid _ from V9w5.out.but U5 (fun (e : q9 = q) => by have := HQ9.out; omega))
        have V10w5s := (show Hid _ from V10w5.out.but U5 (fun (e : q10 = q) => by have := HQ9.out; omega))
        have F5s := (show Hid _ from S5)
        have G5s := (show Hid _ from G5.out.mv (U5.block _ G5.out.lt (by omega)) KU5)
        have HIw5s := (show Hid _ from HIw5.out.keepU KU5)
        have HBw5s := (show Hid _ from HBw5.out.trans (U5.below (by have := HBw5.out.size; have := HQ.out; omega) (fun i (hi : i = q) => by omega)))
        refine hK.out _ _ ⟨V9w5s.out, V10w5s.out⟩ (fun hHeld => ?_)
        clear hK K hHeld S5 U5 KU5 V9w5 V10w5 F5 G5 HIw5 HBw5 HR5
        refine wpAnyH_done (by kernel_rfl) ?_ _
        refine NoPanic.normal ?_
        go_upto_region 15 with fail
        generalize w5.setCells q (u * 2) [.bool mr, .slice ar nr cr] = w5s at *
        refine wp_region_noPanic ?_
        refine wp_region_held_drew (S := fun w' => VA w' q9 [.int .i64 (c : Int), .int .i64 (u : Int), .int .i64 x2, .int .u64 x3, .int .i64 x4] 39 ∧ VA w' q10 [.bool m, .slice a nn kk] 29) (by kernel_rfl) ⟨V9w5s.out.drew, V10w5s.out.drew⟩ (fun hHeld => ?_)
        refine takeD 0 53 (.pointer (some ⟨q9, 0, none⟩)) (by exact rfl) rfl (by kernel_rfl) (by kernel_rfl) (by kernel_rfl) (fun _ _ _ h => h) (Or.inl ⟨by rfl, ?_⟩) (by assumption) ?_
        · intro wq hS
          go_simp
        try simp only [Act.put, List.setIfInBounds_toArray, List.set_cons_zero, List.set_cons_succ]
        refine takeD 1 54 (.int .i64 (c : Int)) (by exact rfl) rfl (by kernel_rfl) (by kernel_rfl) (by kernel_rfl) (fun _ _ _ h => h) (Or.inl ⟨by rfl, ?_⟩) (by assumption) ?_
        · intro wq hS
          have e0 := hS.1.cell 0 (v := .int .i64 (c : Int)) rfl
          go_simp
        try simp only [Act.put, List.setIfInBounds_toArray, List.set_cons_zero, List.set_cons_succ]
        refine takeD 2 55 (.pointer (some ⟨q9, 1, none⟩)) (by exact rfl) rfl (by kernel_rfl) (by kernel_rfl) (by kernel_rfl) (fun _ _ _ h => h) (Or.inl ⟨by rfl, ?_⟩) (by assumption) ?_
        · intro wq hS
          go_simp
        try simp only [Act.put, List.setIfInBounds_toArray, List.set_cons_zero, List.set_cons_succ]
        refine takeD 3 56 (.int .i64 (u : Int)) (by exact rfl) rfl (by kernel_rfl) (by kernel_rfl) (by kernel_rfl) (fun _ _ _ h => h) (Or.inl ⟨by rfl, ?_⟩) (by assumption) ?_
        · intro wq hS
          have e0 := hS.1.cell 1 (v := .int .i64 (u : Int)) rfl
          go_simp
        try simp only [Act.put, List.setIfInBounds_toArray, List.set_cons_zero, List.set_cons_succ]
        refine takeD 4 57 (.pointer (some ⟨q9, 0, none⟩)) (by exact rfl) rfl (by kernel_rfl) (by kernel_rfl) (by kernel_rfl) (fun _ _ _ h => h) (Or.inl ⟨by rfl, ?_⟩) (by assumption) ?_
        · intro wq hS
          go_simp
        try simp only [Act.put, List.setIfInBounds_toArray, List.set_cons_zero, List.set_cons_succ]
        refine takeD 5 58 (.int .i64 (c : Int)) (by exact rfl) rfl (by kernel_rfl) (by kernel_rfl) (by kernel_rfl) (fun _ _ _ h => h) (Or.inl ⟨by rfl, ?_⟩) (by assumption) ?_
        · intro wq hS
          have e0 := hS.1.cell 0 (v := .int .i64 (c : Int)) rfl
          go_simp
        try simp only [Act.put, List.setIfInBounds_toArray, List.set_cons_zero, List.set_cons_succ]
        refine takeD 6 59 (.pointer (some ⟨q9, 1, none⟩)) (by exact rfl) rfl (by kernel_rfl) (by kernel_rfl) (by kernel_rfl) (fun _ _ _ h => h) (Or.inl ⟨by rfl, ?_⟩) (by assumption) ?_
        · intro wq hS
          go_simp
        try simp only [Act.put, List.setIfInBounds_toArray, List.set_cons_zero, List.set_cons_succ]
        refine takeD 7 60 (.int .i64 (u : Int)) (by exact rfl) rfl (by kernel_rfl) (by kernel_rfl) (by kernel_rfl) (fun _ _ _ h => h) (Or.inl ⟨by rfl, ?_⟩) (by assumption) ?_
        · intro wq hS
          have e0 := hS.1.cell 1 (v := .int .i64 (u : Int)) rfl
          go_simp
        try simp only [Act.put, List.setIfInBounds_toArray, List.set_cons_zero, List.set_cons_succ]
        refine takeD 8 61 (.pointer (some ⟨q + 1, 0, none⟩)) (by exact rfl) rfl (by kernel_rfl) (by kernel_rfl) (by kernel_rfl) (fun _ _ _ h => h) (Or.inl ⟨by rfl, ?_⟩) (by assumption) ?_
        · intro wq hS
          go_simp
        try simp only [Act.put, List.setIfInBounds_toArray, List.set_cons_zero, List.set_cons_succ]
        refine takeD 9 62 (.pointer (some ⟨q + 1, c * 8, none⟩)) (by exact rfl) rfl (by kernel_rfl) (by kernel_rfl) (by kernel_rfl) (fun _ _ _ h => h) (Or.inl ⟨by rfl, ?_⟩) (by assumption) ?_
        · intro wq hS
          go_simp
        try simp only [Act.put, List.setIfInBounds_toArray, List.set_cons_zero, List.set_cons_succ]
        refine takeD 10 63 (.pointer (some ⟨q + 1, c * 8 + u * 2, none⟩)) (by exact rfl) rfl (by kernel_rfl) (by kernel_rfl) (by kernel_rfl) (fun _ _ _ h => h) (Or.inl ⟨by rfl, ?_⟩) (by assumption) ?_
        · intro wq hS
          go_simp
        try simp only [Act.put, List.setIfInBounds_toArray, List.set_cons_zero, List.set_cons_succ]
        refine takeD 12 65 (.agg #[.bool m, .slice a nn kk]) (by exact rfl) rfl (by kernel_rfl) (by kernel_rfl) (by kernel_rfl) (fun _ _ _ h => h) (Or.inl ⟨by rfl, ?_⟩) (by assumption) ?_
        · intro wq hS
          have e0 := hS.2.cell 0 (v := .bool m) rfl
          have e1 := hS.2.cell 1 (v := .slice a nn kk) rfl
          go_simp
        try simp only [Act.put, List.setIfInBounds_toArray, List.set_cons_zero, List.set_cons_succ]
        refine takeD 14 67 (.pointer (some ⟨q + 1, 0, none⟩)) (by exact rfl) rfl (by kernel_rfl) (by kernel_rfl) (by kernel_rfl) (fun _ _ _ h => h) (Or.inl ⟨by rfl, ?_⟩) (by assumption) ?_
        · intro wq hS
          go_simp
        try simp only [Act.put, List.setIfInBounds_toArray, List.set_cons_zero, List.set_cons_succ]
        refine takeD 15 68 (.pointer (some ⟨q + 1, c * 8, none⟩)) (by exact rfl) rfl (by kernel_rfl) (by kernel_rfl) (by kernel_rfl) (fun _ _ _ h => h) (Or.inl ⟨by rfl, ?_⟩) (by assumption) ?_
        · intro wq hS
          go_simp
        try simp only [Act.put, List.setIfInBounds_toArray, List.set_cons_zero, List.set_cons_succ]
        clear hHeld
        obtain ⟨mm, am, km, cm, z0, z1, zi⟩ := (G5s.out.step (Below.refl w5s.heap.size w5s).drew).at (4 * c + u) (by omega)
        rw [show (4 * c + u) * 2 = c * 8 + u * 2 by omega] at z0 z1
        have HZI := (show Hid _ from zi)
        clear zi
        refine wpAnyH_ready (rs := [11]) (by kernel_rfl) (by simp) ?_
        refine AllReadyH.cons (by exact rfl) (fun K hK => ?_) AllReadyH.nil
        go_simp
        clear z0 z1
        refine hK.out _ _ ⟨V9w5s.out.drew, V10w5s.out.drew⟩ (fun hHeld => ?_)
        clear hK K hHeld
        try simp only [Act.put, List.setIfInBounds_toArray, List.set_cons_zero, List.set_cons_succ]
        refine wpAnyH_ready (rs := [13]) (by kernel_rfl) (by simp) ?_
        refine AllReadyH.cons (by exact rfl) (fun K hK => ?_) AllReadyH.nil
        go_simp
        refine (sum_in _ _ _ _ _ HZI.out (HIw5s.out.drew) (nf_mi HRG.out (fun y hy => HK.out.wf y (List.mem_of_mem_take hy)) (by rw [List.length_take]; have := HK.out.sz; omega) _ (by omega)) HUM.out).mono ?_
        rintro e w6 ⟨⟨r6, rfl, i6⟩, b6⟩
        have b6 : Below w5s.heap.size w5s w6 := ((Below.refl w5s.heap.size w5s).drew).trans b6
        obtain ⟨mr, ar, nr, cr, rfl, _⟩ := i6.form
        have HR6 := (show Hid _ from i6)
        have V9w6 := (show Hid _ from V9w5s.out.step b6)
        have V10w6 := (show Hid _ from V10w5s.out.step b6)
        have F6 := (show Hid _ from G5s.out.step b6)
        have G6 := (show Hid _ from F5s.out.step b6)
        have HIw6 := (show Hid _ from HIw5s.out.step b6)
        have HBw6 := (show Hid _ from HBw5s.out.trans (b6.mono (by have := HBw5s.out.size; have := HQ.out; omega)))
        clear b6 i6 HZI V9w5s V10w5s HIw5s HBw5s G5s F5s
        go_wp2_with fail
        refine hK.out _ _ ⟨V9w6.out, V10w6.out⟩ (fun hHeld => ?_)
        clear hK K
        try simp only [Act.put, List.setIfInBounds_toArray, List.set_cons_zero, List.set_cons_succ]
        refine takeD 16 69 (.pointer (some ⟨q + 1, c * 8 + u * 2, none⟩)) (by exact rfl) rfl (by kernel_rfl) (by kernel_rfl) (by kernel_rfl) (fun _ _ _ h => h) (Or.inl ⟨by rfl, ?_⟩) (by assumption) ?_
        · intro wq hS
          go_simp
        try simp only [Act.put, List.setIfInBounds_toArray, List.set_cons_zero, List.set_cons_succ]
        clear hHeld
        refine wpAnyH_ready (rs := [17]) (by kernel_rfl) (by simp) ?_
        refine AllReadyH.cons (by exact rfl) (fun K hK => ?_) AllReadyH.nil
        refine stMid (by rfl) (by rfl) 29 _ _ (by rfl) (q + 1) (c * 8 + u * 2) [.bool mr, .slice ar nr cr] (by rfl) (by rfl) ((by have := F6.out.there (4 * c + u) (by omega); rwa [show (4 * c + u) * 2 = c * 8 + u * 2 by omega] at this)) infoIn (int_one _ _ _ _) ?_
        have S6 := F6.out.set (by decide) (4 * c + u) (by omega) HR6.out
        rw [show (4 * c + u) * 2 = c * 8 + u * 2 by omega] at S6
        have U6 := setCells_but w6 (q + 1) (c * 8 + u * 2) [.bool mr, .slice ar nr cr]
        have KU6 : KeepU w6 (w6.setCells (q + 1) (c * 8 + u * 2) [.bool mr, .slice ar nr cr]) := by
          obtain ⟨cs, h1, _⟩ := F6.out.ex
          exact U6.keepU h1 (by decide)
        have V9w6s := (show Hid _ from V9w6.out.but U6 (fun (e : q9 = (q + 1)) => by have := HQ9.out; omega))
        have V10w6s := (show Hid _ from V10w6.out.but U6 (fun (e : q10 = (q + 1)) => by have := HQ9.out; omega))
        have F6s := (show Hid _ from S6)
        have G6s := (show Hid _ from G6.out.mv (U6.block _ G6.out.lt (by omega)) KU6)
        have HIw6s := (show Hid _ from HIw6.out.keepU KU6)
        have HBw6s := (show Hid _ from HBw6.out.trans (U6.below (by have := HBw6.out.size; have := HQ.out; omega) (fun i (hi : i = (q + 1)) => by omega)))
        refine hK.out _ _ ⟨V9w6s.out, V10w6s.out⟩ (fun hHeld => ?_)
        clear hK K hHeld S6 U6 KU6 V9w6 V10w6 F6 G6 HIw6 HBw6 HR6
        refine wpAnyH_done (by kernel_rfl) ?_ _
        refine NoPanic.normal ?_
        go_wp2_with fail
        refine ⟨⟨k + 1, by omega, by go_num, ?_, HPK.out, ?_, ?_, HBw6s.out⟩, by simp [intOf]; omega⟩
        · rw [HAL.out]; simp
        · have e := HOK.out
          rw [show okl (ls.take (k + 1)) = okl (ls.take k) ++ [⟨(c : Int), (u : Int), x2, x3, x4⟩] by simpa using e]
          refine G6s.out.congr (g := fun i => sau (okl (ls.take k) ++ [⟨(c : Int), (u : Int), x2, x3, x4⟩]) (i : Int)) (fun i hi => ?_)
          show _ = sau (okl (ls.take k) ++ [⟨(c : Int), (u : Int), x2, x3, x4⟩]) (i : Int)
          rw [HE1.out]
          by_cases e : i = u
          · subst e; rw [if_pos rfl, if_pos rfl]
          · rw [if_neg e, if_neg (fun e' => e (by omega)), Int.add_zero]
        · have e := HOK.out
          rw [show okl (ls.take (k + 1)) = okl (ls.take k) ++ [⟨(c : Int), (u : Int), x2, x3, x4⟩] by simpa using e]
          refine F6s.out.congr (g := nf b (okl (ls.take k) ++ [⟨(c : Int), (u : Int), x2, x3, x4⟩])) (fun i hi => ?_)
          unfold nf
          rw [HE2.out]
          by_cases e : i = 4 * c + u
          · subst e
            rw [if_pos rfl, show (4 * c + u) / 4 = c by have := HCU.out; omega, show (4 * c + u) % 4 = u by have := HCU.out; omega, if_pos ⟨rfl, rfl⟩, Int.add_assoc]
          · rw [if_neg e, if_neg (fun e' => e (by have := HCU.out; omega)), Int.add_zero]
end Go.Proofs.YtlgcbbnnldlooaaDoor
