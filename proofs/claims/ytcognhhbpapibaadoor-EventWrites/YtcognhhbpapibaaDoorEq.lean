/- event: a guarded load of all of a struct; the walk of EventNumbers. -/
import Derived.Test.YtcognhhbpapibaaDoorEp
namespace Go.Proofs.YtcognhhbpapibaaDoor
open Go.RowKit
set_option linter.unusedVariables false

/-- all of an array or a struct is loaded, under a guard that holds -/
theorem ldAw {w : World} {ops : Array Oper} {rest : List Oper} {o : Oper} {a : Act} {Q : Exit → Act → World → Prop} (hgd : Region.wanted o (yielded ops a.tmps) = true) (t : TypeId) (x : Operand) (ho : o.op = .load t x)
    (p : Nat) (hx : a.eval x = .pointer (some ⟨p, 0, none⟩)) (cs : List Value) (T : TypeId) (h : VA w p cs T) (d : TypeDesc) (hu : Tryd.prog.underlying t = some d) (hd : d.isRow = true) (hi : (Tryd.prog.info? t).map (·.size) = some cs.length)
    (k : wpList Tryd.prog ops Q rest (a.put o.dst (.agg cs.toArray)) w) : wpList Tryd.prog ops Q (o :: rest) a w := by
  refine wpList_step fun K hK => ?_
  rw [if_pos hgd]
  exact wp_load_mid t x ho p 0 hx cs d (fun j v hv => by rw [Nat.zero_add]; exact h.cell j hv) hu hd hi (hK _ _ k)
set_option maxHeartbeats 2000000 in
set_option maxRecDepth 100000 in
theorem numbers_walk (x : E8) (tv : Value) (at' : Nat) (by' : Int) (w : World) (hx : x.ok) (T : Tc w) (R : Tr w tv x.ts) (ha : at' ≤ 255) (hb : I64 by') :
    Calls Tryd.prog 6 #[.agg (x.cells tv).toArray, .int .u8 at', .int .i64 by'] w fun e w' => e = .returned (.bool true) ∧ Below w.heap.size w w' := by
  obtain ⟨ta, tn, tc, rfl⟩ : ∃ a n c, tv = .slice a n c := by obtain ⟨_, a, c, e, _⟩ := R; exact ⟨a, _, c, e⟩
  obtain ⟨tv, htv⟩ : ∃ tv, tv = Value.slice ta tn tc := ⟨_, rfl⟩
  have HTV := (show Hid _ from htv)
  rw [← htv] at R ⊢
  clear htv
  have V := va_new w (x.cells tv) 26
  have D := (Below.refl w.heap.size w).alloc (Nat.le_refl _) (.cells (x.cells tv).toArray 26)
  have hw0 := T.lt
  have HV := (show Hid _ from V)
  have HD := (show Hid _ from D)
  have HT := (show Hid _ from T)
  have HR := (show Hid _ from R)
  have HX := (show Hid _ from hx)
  have HB := (show Hid _ from hb)
  have l11 := E8.len11 hx
  have o255 := hx.op
  clear V D T R hx hb
  go_enter Tryd.func6, Tryd.ntmps6
  go_wp2_with fail
  generalize w.alloc (.cells (x.cells tv).toArray 26) = w1 at *
  refine (awake_ok _ (HT.out.step HD.out (by omega))).mono ?_
  rintro e w2 ⟨rfl, b2⟩
  have D2 := (show Hid _ from HD.out.trans (b2.mono HD.out.size))
  have V2 := (show Hid _ from HV.out.step b2)
  clear b2 HD HV
  go_wp2_with (refine ldA rfl 26 _ rfl w.heap.size (by rfl) _ _ V2.out _ Tryd.underlying26 rfl (info26.trans (by rw [l11])) ?_)
  by_cases hf : x.form
  · have HF := (show Hid _ from hf)
    have o1 := hf.lo
    have o2 := hf.hi
    have wf : Hid (∀ t ∈ x.ts, I64 t.1 ∧ I64 t.2) := HR.out.wf
    refine (write_yes x tv _ HX.out (HT.out.step D2.out (by omega)) (HR.out.step D2.out) hf).mono ?_
    rintro e w3 ⟨⟨u, rfl, o3⟩, b3⟩
    have D3 := (show Hid _ from D2.out.trans (b3.mono D2.out.size))
    have V3 := V2.out.step b3
    have y0 := V3.cell 0 (E8.c0 _ _)
    have O3 := (show Hid _ from o3.bs)
    have HV3 := (show Hid _ from V3)
    clear b3 V3 V2 D2 o3 hf
    go_wp2_with fail
    refine (count_yes x.op _ (HT.out.step D3.out (by omega)) o1 o2).mono ?_
    rintro e w4 ⟨rfl, rfl⟩
    have np := ct_pos o1 o2
    have n8 := ct_le x.op
    obtain ⟨N, hN⟩ : ∃ N, N = ct.getD x.op 0 := ⟨_, rfl⟩
    have HN := (show Hid _ from hN)
    rw [← hN] at np n8 ⊢
    obtain ⟨q, hq⟩ : ∃ q, q = at' % N := ⟨_, rfl⟩
    have hqN : q < N := by rw [hq]; exact Nat.mod_lt _ (by omega)
    have e1 : (at' : Int).tmod (N : Int) = (q : Int) := by rw [hq, Int.tmod_eq_emod_of_nonneg (by omega)]; rfl
    have e2 : ((N : Int) == 0) = false := by
      have : ¬ ((N : Int) = 0) := by omega
      simpa using this
    obtain ⟨v, hv⟩ : ∃ v, v = x.ns.getD q 0 := ⟨_, rfl⟩
    have HVV := (show Hid _ from hv)
    have vb : I64 v := by rw [hv]; exact E8.nbd HX.out q
    obtain ⟨z, hz⟩ : ∃ z, z = bits .xor .i64 v by' := ⟨_, rfl⟩
    have HZ := (show Hid _ from hz)
    have hz2 : bits .xor .i64 v by' = z := hz.symm
    have zb : I64 z := by rw [hz]; exact xor_bd _ _
    obtain ⟨y, hy⟩ : ∃ y, y = x.turn q z := ⟨_, rfl⟩
    have HY := (show Hid _ from hy)
    have Yok : Hid y.ok := by rw [hy]; exact turn_ok HX.out q zb
    have Yform : Hid y.form := by rw [hy]; exact turn_form HF.out q z (by rw [← HN.out]; exact hqN)
    have Yts : Hid (y.ts = x.ts) := by rw [hy]; rfl
    have Ywf : Hid (∀ t ∈ y.ts, I64 t.1 ∧ I64 t.2) := by rw [Yts.out]; exact wf.out
    have Yb : Hid (x.bytes = y.bytes ↔ by' = 0) := by
      rw [hy]
      show _ ↔ _
      rw [turn_bytes HX.out q z zb (by rw [← HN.out]; exact hqN), ← hv, hz]
      exact xor_fix v by' vb HB.out
    have Yset : Hid (∀ tv, (x.cells tv).set (2 + q) (.int .i64 z) = y.cells tv) := fun tv => by rw [hy]; exact turn_cells HX.out q z (by omega) tv
    have l12 := E8.len11 Yok.out
    have Xq : Hid (∀ tv, (x.cells tv)[2 + q]? = some (.int .i64 v)) := fun tv => by rw [hv]; exact E8.cn HX.out tv q (by omega)
    clear hN hq y0 hv hz hy
    go_wp2_with (first
      | (refine ldA rfl 26 _ rfl w.heap.size (by rfl) _ _ HV3.out _ Tryd.underlying26 rfl (info26.trans (by rw [l11])) ?_)
      | (refine stA rfl 26 _ _ rfl w4.heap.size (by rfl) (E8.cells ⟨0, 0, List.replicate 8 0, []⟩ (.slice none 0 0)) (x.cells tv) (by rfl) 26 (va_new w4 (E8.cells ⟨0, 0, List.replicate 8 0, []⟩ (.slice none 0 0)) 26) (info26.trans (by rw [l11])) (by rw [l11]; rfl) (fun u hu => ev_one (by rw [HTV.out] at hu; exact hu)) ?_; intro w5 V5 U5; have cq := V5.cell (2 + q) (Xq.out _); have fq := V5.free (2 + q); have V6 := V5.set (2 + q) (.int .i64 z); rw [Yset.out] at V6)
      | (refine ldA rfl 26 _ rfl w4.heap.size (by rfl) _ _ V6 _ Tryd.underlying26 rfl (info26.trans (by rw [l12])) ?_))
    have D5 := U5.bel ((Below.refl w4.heap.size w4).alloc (Nat.le_refl _) (.cells (E8.cells ⟨0, 0, List.replicate 8 0, []⟩ (.slice none 0 0)).toArray 26)) (Nat.le_refl _)
    have D6 := D5.setCell (p := ⟨w4.heap.size, 2 + q, none⟩) (Nat.le_refl _) (.int .i64 z)
    have O6 := (show Hid _ from O3.out.step D6)
    have E6 := (show Hid _ from D3.out.trans (D6.mono D3.out.size))
    have HV6 := (show Hid _ from V6)
    clear D5 D6 V5 U5 V6 cq fq O3 HV3 D3
    generalize w5.setCell ⟨w4.heap.size, 2 + q, none⟩ (.int .i64 z) = w6 at *
    generalize w4.heap.size = G at *
    refine (write_yes y tv _ Yok.out (HT.out.step E6.out (by omega)) (by rw [Yts.out]; exact HR.out.step E6.out) Yform.out).mono ?_
    rintro e w7 ⟨⟨u7, rfl, o7⟩, b7⟩
    have O7 := (show Hid _ from o7.bs)
    have P7 := (show Hid _ from O6.out.step b7)
    have E7 := (show Hid _ from E6.out.trans (b7.mono E6.out.size))
    have HV7 := (show Hid _ from HV6.out.step b7)
    clear o7 b7 O6 E6 HV6
    go_wp2_with fail
    refine (read_yes u7 y _ Yok.out Yform.out Ywf.out (HT.out.step E7.out (by omega)) O7.out).mono ?_
    rintro e w8 ⟨⟨tu, rfl, t8⟩, b8⟩
    obtain ⟨ua, un, uc, rfl⟩ : ∃ a n c, tu = .slice a n c := by obtain ⟨_, a, c, e, _⟩ := t8; exact ⟨a, _, c, e⟩
    have O8 := (show Hid _ from O7.out.step b8)
    have P8 := (show Hid _ from P7.out.step b8)
    have E8' := (show Hid _ from E7.out.trans (b8.mono E7.out.size))
    have HV8 := (show Hid _ from HV7.out.step b8)
    rw [HTV.out] at HV8
    have T8 := (show Hid _ from t8)
    have g8 := HV8.out.lt
    clear t8 b8 O7 P7 E7 HV7
    go_wp2_with (first
      | (refine stA rfl 26 _ _ rfl w8.heap.size (by rfl) (E8.cells ⟨0, 0, List.replicate 8 0, []⟩ (.slice none 0 0)) (y.cells (.slice ua un uc)) (by rfl) 26 (va_new w8 (E8.cells ⟨0, 0, List.replicate 8 0, []⟩ (.slice none 0 0)) 26) (info26.trans (by rw [l12])) (by rw [l12]; rfl) (fun u hu => ev_one hu) ?_; intro w9 V9 U9; have D9 := U9.bel ((Below.refl w8.heap.size w8).alloc (Nat.le_refl _) (.cells (E8.cells ⟨0, 0, List.replicate 8 0, []⟩ (.slice none 0 0)).toArray 26)) (Nat.le_refl _); have W9 := HV8.out.step D9)
      | (refine ldAw (by rfl) 26 _ rfl w8.heap.size (by rfl) _ _ V9 _ Tryd.underlying26 rfl (info26.trans (by rw [l12])) ?_)
      | (refine ldAw (by rfl) 26 _ rfl G (by rfl) _ _ W9 _ Tryd.underlying26 rfl (info26.trans (by rw [l12])) ?_))
    have O9 := (show Hid _ from O8.out.step D9)
    have P9 := (show Hid _ from P8.out.step D9)
    have E9 := (show Hid _ from E8'.out.trans (D9.mono E8'.out.size))
    have R9 : Hid (Tr w9 (.slice ta tn tc) y.ts) := by rw [Yts.out, ← HTV.out]; exact HR.out.step E9.out
    have T9 := (show Hid _ from T8.out.step D9)
    clear D9 V9 W9 U9 O8 P8 E8' T8 HV8 g8
    refine (rsame_true y _ _ _ Yok.out T9.out R9.out).mono ?_
    rintro e w10 ⟨rfl, b10⟩
    have O10 := (show Hid _ from O9.out.step b10)
    have P10 := (show Hid _ from P9.out.step b10)
    have E10 := (show Hid _ from E9.out.trans (b10.mono E9.out.size))
    clear b10 O9 P9 E9 R9 T9
    go_wp2_with fail
    refine (same_ok _ _ _ _ _ P10.out O10.out).mono ?_
    rintro e w11 ⟨rfl, b11⟩
    have E11 := (show Hid _ from E10.out.trans (b11.mono E10.out.size))
    clear b11
    by_cases h0 : by' = 0
    · rw [show decide (x.bytes = y.bytes) = true from decide_eq_true (Yb.out.2 h0)]
      have h1 : (by' == 0) = true := by simpa using h0
      go_wp2_with fail
      go_ret
      exact ⟨rfl, E11.out⟩
    · rw [show decide (x.bytes = y.bytes) = false from decide_eq_false (fun e => h0 (Yb.out.1 e))]
      have h1 : (by' == 0) = false := by simpa using h0
      go_wp2_with fail
      go_ret
      exact ⟨rfl, E11.out⟩
  · refine (write_no x tv _ HX.out (HT.out.step D2.out (by omega)) (HR.out.step D2.out) hf).mono ?_
    rintro e w3 ⟨rfl, b3⟩
    have D3 := (show Hid _ from D2.out.trans (b3.mono D2.out.size))
    have V3 := V2.out.step b3
    have y0 := V3.cell 0 (E8.c0 _ _)
    clear b3 V3 V2 D2
    go_wp2_with fail
    by_cases hop : x.op < 1 ∨ 15 < x.op
    · refine (count_no x.op _ hop o255).mono ?_
      rintro e w4 ⟨rfl, rfl⟩
      go_wp2_with fail
      go_ret
      exact ⟨rfl, D3.out⟩
    · refine (count_yes x.op _ (HT.out.step D3.out (by omega)) (by omega) (by omega)).mono ?_
      rintro e w4 ⟨rfl, rfl⟩
      generalize ((ct.getD x.op 0 : Nat) : Int) = N at *
      go_wp2_with fail
      go_ret
      exact ⟨rfl, D3.out⟩
end Go.Proofs.YtcognhhbpapibaaDoor
