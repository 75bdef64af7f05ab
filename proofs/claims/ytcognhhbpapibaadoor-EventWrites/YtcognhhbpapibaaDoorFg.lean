/- event: append within a region that draws its order; the document's Write. -/
import Derived.Test.YtcognhhbpapibaaDoorFf
import Derived.Test.YtcognhhbpapibaaDoorAl
namespace Go.Proofs.YtcognhhbpapibaaDoor
open Go.RowKit
set_option linter.unusedVariables false

/-- append(s, x...) as a region that draws its order meets it -/
theorem appBk {w : World} {y : Nat → Option Bool} {o : Oper} {a : Act} {Q : Exit → Act → World → Prop} {K : Act → World → Prop} {k0 : Prop} (hgd : Region.wanted o y = true) (s x : Operand)
    (ho : o.op = .call { callee := .builtin .append, args := #[s, x], argTypes := #[29, 29] })
    (B : Nat) (cs bs : List Nat) (v u : Value) (hs : a.eval s = v) (hx : a.eval x = u)
    (hown : OwnB w B v cs) (hu : Bs w u bs) (hB : B ≤ w.heap.size) (hl : cs.length + bs.length ≤ 140737488355328)
    (h : ∀ v' w', OwnB w' B v' (cs ++ bs) → Below B w w' → w.grownBy w' v.ownBlock → K (a.put o.dst v') w') :
    if Region.wanted o y then o.wp Tryd.prog a w K Q else k0 := by
  obtain ⟨i0, hi, hz0, hz1, hz2⟩ := info8_parts
  obtain ⟨hby, ad, c, rfl, h1, h2, h3, h4⟩ := hu
  rw [if_pos hgd]
  have hfin : ∀ v' w', w'.ownsRow B 5 1 v' (cs.length + bs.length) (cl cs ++ cl bs) → w.grownBy w' v.ownBlock → K (a.put o.dst v') w' := fun v' w' g1 g2 =>
    h v' w' ⟨hown.byte.app hby, by rw [List.length_append, ← cl_app]; exact g1⟩ ((Below.refl _ _).grown g2 hB hown.block) g2
  cases ad with
  | none =>
    obtain rfl := h3 rfl
    obtain rfl : bs = [] := List.eq_nil_of_length_eq_zero (by omega)
    have hrun := run_append_owned_none (P := Tryd.prog) (w := w) B 29 o.type 5 i0 1 Tryd.underlying29 hi v cs.length (cl cs) hown.own
    unfold Oper.wp
    simp [execOp, ho, resolve, invoke, builtin, hs, hx, hrun, Result.andThen]
    exact h v w (by simpa using hown) (Below.refl _ _) (World.grownBy.refl _ _)
  | some ad =>
    refine wp_append_own _ s x 29 ho B 5 i0 (.int .u8 0) 1 1 Tryd.underlying29 hi hz0 hz1 hz2 rfl (by decide) v cs.length (cl cs) hs hown.own ad bs.length c (cl bs) hx (by simp [cl_len]) ?_ (fun u hu => cl_one hu) (by unfold maxLen; omega) (by omega) hB (fun v' w' g1 g2 _ => hfin v' w' g1 g2)
    intro j u hj
    have hj' : j < bs.length := by
      have := (List.getElem?_eq_some_iff.1 hj).1
      rwa [cl_len] at this
    obtain ⟨b, off, e, hb, hcell⟩ := h4 (by omega)
    cases e
    rw [Go.WideShapes.add_plain, hcell j hj', ← cl_get bs j hj', hj]
theorem appBg {w : World} {ops : Array Oper} {rest : List Oper} {o : Oper} {a : Act} {Q : Exit → Act → World → Prop} (hgd : o.guard = none) (s x : Operand)
    (ho : o.op = .call { callee := .builtin .append, args := #[s, x], argTypes := #[29, 29] })
    (B : Nat) (cs bs : List Nat) (v u : Value) (hs : a.eval s = v) (hx : a.eval x = u)
    (hown : OwnB w B v cs) (hu : Bs w u bs) (hB : B ≤ w.heap.size) (hl : cs.length + bs.length ≤ 140737488355328)
    (h : ∀ v' w', OwnB w' B v' (cs ++ bs) → Below B w w' → w.grownBy w' v.ownBlock → wpList Tryd.prog ops Q rest (a.put o.dst v') w') :
    wpList Tryd.prog ops Q (o :: rest) a w :=
  wpList_step fun K hK => appBk (by simp [Region.wanted, hgd]) s x ho B cs bs v u hs hx hown hu hB hl (fun v' w' p q r => hK _ _ (h v' w' p q r))
/-- a block of another type stays when bytes are appended -/
theorem VA.grown {w w' : World} {p B : Nat} {cs : List Value} {T : TypeId} {v : Value} {bs : List Nat} (h : VA w p cs T) (g : w.grownBy w' v.ownBlock) (o : OwnB w B v bs) (hT : T ≠ 5) : VA w' p cs T := by
  refine ⟨(g.block p h.lt (fun e => ?_)).trans h.blk⟩
  rcases o.own.2 with ⟨rfl, _⟩ | ⟨q, cap, cur, rfl, _, hq, _⟩
  · cases e
  · cases e
    have := h.blk.symm.trans hq
    simp at this
    exact hT this.2
/-- []byte{o} -/
theorem own_one (w : World) (o : Nat) (ho : o < 256) {B : Nat} (hB : B ≤ w.heap.size) : OwnB (w.alloc (.cells #[.int .u8 (o : Int)] 5)) B (.slice (some ⟨w.heap.size, 0, none⟩) 1 1) [o] :=
  ⟨By.one ho, by simp [cl], .inr ⟨w.heap.size, 1, _, rfl, hB, heap_alloc_new w _, Nat.le_refl _, by unfold maxLen; omega, rfl, by simp [cl]⟩⟩
/-- what Write has so far -/
structure Wr (w wx : World) (x : E8) (tv s : Value) (bs : List Nat) : Prop where
  own : OwnB wx (w.heap.size + 1) s bs
  va : VA wx w.heap.size (x.cells tv) 26
  bel : Below w.heap.size w wx
theorem Wr.size {w wx : World} {x : E8} {tv s : Value} {bs : List Nat} (h : Wr w wx x tv s bs) : w.heap.size + 1 ≤ wx.heap.size := h.va.lt
theorem VA.bel {w w' : World} {p B : Nat} {cs : List Value} {T : TypeId} (h : VA w p cs T) (k : Below B w w') (hp : p < B) : VA w' p cs T := ⟨by rw [k.block p hp]; exact h.blk⟩
theorem Wr.step {w wx wy : World} {x : E8} {tv s : Value} {bs : List Nat} (h : Wr w wx x tv s bs) (k : Below wx.heap.size wx wy) : Wr w wy x tv s bs := ⟨h.own.step k, h.va.step k, h.bel.trans (k.mono h.bel.size)⟩
theorem Wr.app {w wx wy : World} {x : E8} {tv s t : Value} {bs cs : List Nat} (h : Wr w wx x tv s bs) (k : Below (w.heap.size + 1) wx wy) (o : OwnB wy (w.heap.size + 1) t cs) : Wr w wy x tv t cs := ⟨o, h.va.bel k (by omega), h.bel.trans (k.mono (by omega))⟩
set_option maxHeartbeats 1000000 in
set_option maxRecDepth 100000 in
theorem rwrite_ok (x : E8) (tv : Value) (w : World) (hx : x.ok) (R : Tr w tv x.ts) (hf : x.form) :
    Calls Tryd.prog 25 #[.agg (x.cells tv).toArray] w fun e w' => (∃ u, e = .returned u ∧ OwnB w' w.heap.size u x.bytes) ∧ Below w.heap.size w w' := by
  have V := va_new w (x.cells tv) 26
  have y0 := V.cell 0 (x.c0 tv)
  have y1 := V.cell 1 (x.c1 tv)
  have HV := (show Hid _ from V)
  have HB := (show Hid _ from (Below.refl w.heap.size w).alloc (Nat.le_refl _) (.cells (x.cells tv).toArray 26))
  have HR := (show Hid _ from R)
  have HX := (show Hid _ from hx)
  have HF := (show Hid _ from hf)
  have HWB : Hid (∀ i, I64 (x.ns.getD i 0)) := fun i => E8.nbd hx i
  have HWT : Hid (∀ i, I64 (x.ts.getD i (0, 0)).1 ∧ I64 (x.ts.getD i (0, 0)).2) := fun i => tr_wf R i
  have o1 := hf.lo
  have o2 := hf.hi
  have ck := hx.key
  have elk := enc_len (n := x.key) (by omega)
  have HEK := (show Hid _ from elk)
  have l0 := V.lt
  clear V R hx hf elk
  go_enter Tryd.func25, Tryd.ntmps25
  go_wp2_with fail
  generalize w.alloc (.cells (x.cells tv).toArray 26) = w1 at *
  go_upto_region 1 with fail
  go_cut [3] (fun s3 wx => Hid (Wr w wx x tv s3 ([x.op] ++ enc x.key)))
  case first =>
    have A1 := HV.out.alloc (.cells #[.int .u8 (x.op : Int)] 5)
    have z0 := A1.cell 0 (x.c0 tv)
    have z1 := A1.cell 1 (x.c1 tv)
    have B1 := HB.out.alloc HB.out.size (.cells #[.int .u8 (x.op : Int)] 5)
    have P1 := own_one w1 x.op (by omega) (B := w.heap.size + 1) (by omega)
    go_region_held3 (fun w' => w'.cell? ⟨w.heap.size, 0, none⟩ = some (.int .u8 (x.op : Int)) ∧ w'.cell? ⟨w.heap.size, 1, none⟩ = some (.int .u64 (x.key : Int)))
      (first | exact ⟨y0, y1⟩ | exact ⟨z0, z1⟩ | exact ⟨a0, a1⟩ | exact ⟨c0, c1⟩ | exact ⟨V5.cell 0 (x.c0 tv), V5.cell 1 (x.c1 tv)⟩)
      (first
        | (go_at_call 32; refine (ruint_ok (x.key : Int) w1.drew (by omega)).mono ?_; rintro e w3 ⟨⟨u3, rfl, o3⟩, b3⟩; rw [Int.toNat_natCast] at o3; have V3 := HV.out.drew.step b3; have a0 := V3.cell 0 (x.c0 tv); have a1 := V3.cell 1 (x.c1 tv); have D3 := HB.out.trans ((bel_of_drew b3).mono HB.out.size); have A3 := V3.alloc (.cells #[.int .u8 (x.op : Int)] 5); have c0 := A3.cell 0 (x.c0 tv); have c1 := A3.cell 1 (x.c1 tv); have l3 := V3.lt; have P3 := own_one w3 x.op (by omega) (B := w.heap.size + 1) l3; have Q3 := (o3.alloc (.cells #[.int .u8 (x.op : Int)] 5)).bs; have W3 : Wr w _ x tv _ _ := ⟨P3, A3, D3.alloc D3.size (.cells #[.int .u8 (x.op : Int)] 5)⟩; have S3 := W3.size)
        | (go_at_call 32; refine (ruint_ok (x.key : Int) _ (by omega)).mono ?_; rintro e w3 ⟨⟨u3, rfl, o3⟩, b3⟩; rw [Int.toNat_natCast] at o3; have V3 := A1.drew.step b3; have a0 := V3.cell 0 (x.c0 tv); have a1 := V3.cell 1 (x.c1 tv); have D3 := B1.trans ((bel_of_drew b3).mono B1.size); have P3 := P1.step (bel_of_drew b3); have Q3 := o3.bs; have W3 : Wr w _ x tv _ _ := ⟨P3, V3, D3⟩; have S3 := W3.size)
        | (refine appBk (by rfl) _ _ rfl (w.heap.size + 1) [x.op] (enc x.key) _ _ (by rfl) (by rfl) P3 Q3 S3 (by have := HEK.out; simp; omega) ?_; intro v5 w5 o5 b5 g5; have W5 := W3.app b5 o5; have V5 := W5.va))
    all_goals
      go_wp2_with fail
      go_meet
      exact W5
  clear y0 y1 HV HB l0
  have HC := (show Hid _ from hcut.out)
  clear hcut
  have h8 := ct_le x.op
  obtain ⟨N, hN⟩ : ∃ N, N = ct.getD x.op 0 := ⟨_, rfl⟩
  have HN := (show Hid _ from hN)
  rw [← hN] at h8
  have HRC : Hid (∀ w, Calls Tryd.prog 26 #[.int .u8 x.op] w fun e w' => e = .returned (.int .i64 (N : Int)) ∧ w' = w) := fun w => by rw [hN]; exact rcount_yes x.op w o1 o2
  clear hN
  go_wp2_with fail
  go_loopw [3, 4] (fun s i wr => ∃ k : Nat, k ≤ N ∧ i = .int .i64 k ∧ Hid (Wr w wr x tv s ([x.op] ++ enc x.key ++ nbs x.ns k))) (fun _ i _ => N - (intOf i).toNat)
  case atStart => exact ⟨0, by omega, rfl, by show Wr _ _ _ _ _ _; simpa [nbs] using HC.out⟩
  case round =>
    clear HC
    obtain ⟨k, hk, rfl, K⟩ := hrel
    have y0 := K.out.va.cell 0 (x.c0 tv)
    go_wp2_with fail
    refine Calls.mono (HRC.out _) ?_
    rintro e w2 ⟨rfl, rfl⟩
    have HL : Hid (([x.op] ++ enc x.key ++ nbs x.ns k).length ≤ 200) := by
      have := nb_len x.ns HWB.out k
      have := HEK.out
      show _ ≤ _
      rw [List.length_append, List.length_append, List.length_singleton]
      omega
    by_cases hkN : k = N
    · subst hkN
      by_cases hop1 : x.op = 1
      · obtain ⟨tn, htn⟩ : ∃ tn, tn = x.ts.length := ⟨_, rfl⟩
        have HTN := (show Hid _ from htn)
        have HT2 := (show Hid _ from HR.out.step K.out.bel)
        obtain ⟨ta, tc, rfl, ht1, ht2⟩ : ∃ a c, tv = .slice a tn c ∧ tn ≤ c ∧ c ≤ 9223372036854775807 := by obtain ⟨_, a, c, e, h1, h2, _⟩ := HT2.out; exact ⟨a, c, by rw [htn]; exact e, by rw [htn]; exact h1, h2⟩
        have ht8 : tn ≤ 8 := by
          have := HF.out.tiers
          rw [hop1, ← HTN.out] at this
          exact this
        have y10 := K.out.va.cell 10 (E8.ctv HX.out _)
        rw [hop1] at y0
        rw [show (((1 : Nat)) : Int) = 1 from rfl] at y0
        clear htn HT2
        go_wp2_with fail
        refine (ruint_ok (tn : Int) _ (by omega)).mono ?_
        rintro e w3 ⟨⟨u3, rfl, o3⟩, b3⟩
        rw [Int.toNat_natCast] at o3
        have K3 := (show Hid _ from K.out.step b3)
        have O3 := (show Hid _ from o3.bs)
        have el := enc_len (n := tn) (by omega)
        have HEL := (show Hid _ from el)
        clear o3 b3 K el y0 y10
        go_wp2_with (at_builtin; refine appB rfl _ _ rfl (w.heap.size + 1) _ (enc tn) _ _ (by rfl) (by rfl) K3.out.own O3.out K3.out.size (by have := HL.out; have := HEL.out; omega) ?_; intro v4 w4 o4 b4; have K4 := K3.out.app b4 o4; have y10 := K4.va.cell 10 (E8.ctv HX.out _))
        have HK4 := (show Hid _ from K4)
        clear K3 O3 K4 o4 b4
        go_loopw [3, 41] (fun s i wr => ∃ j : Nat, j ≤ tn ∧ i = .int .i64 j ∧ Hid (Wr w wr x (.slice ta tn tc) s ([x.op] ++ enc x.key ++ nbs x.ns k ++ enc tn ++ tbs x.ts j))) (fun _ i _ => tn - (intOf i).toNat)
        case atStart => exact ⟨0, by omega, rfl, by show Wr _ _ _ _ _ _; simpa [tbs] using HK4.out⟩
        case round =>
          clear HK4 y10
          obtain ⟨j, hj, rfl, K⟩ := hrel
          by_cases hjt : j = tn
          · subst hjt
            go_wp2_with fail
            go_ret
            refine ⟨⟨_, rfl, ?_⟩, K.out.bel⟩
            have := K.out.own.lower (show w.heap.size ≤ w.heap.size + 1 by omega)
            unfold E8.bytes E8.head
            rw [← HN.out, if_pos hop1, ← HTN.out]
            simpa [List.append_assoc] using this
          have hj' : j < tn := by omega
          obtain ⟨b, off, rfl, hb, z1, z2⟩ := (HR.out.step K.out.bel).at j hj'
          have w1' := (HWT.out j).1
          have w2' := (HWT.out j).2
          have HE : Hid (tbs x.ts (j + 1) = tbs x.ts j ++ enc (zz (x.ts.getD j (0, 0)).1) ++ enc (zz (x.ts.getD j (0, 0)).2)) := rfl
          have HT1 := (show Hid _ from tb_len x.ts HWT.out j)
          generalize (x.ts.getD j (0, 0)).1 = f at *
          generalize (x.ts.getD j (0, 0)).2 = g at *
          have zl1 := zl w1'
          have zl2 := zl w2'
          rw [Nat.mul_comm 2 j] at z1 z2
          have lens : Hid (([x.op] ++ enc x.key ++ nbs x.ns k ++ enc tn ++ tbs x.ts j).length ≤ 1000) := by
            have h1 := HT1.out
            have h2 := HL.out
            have h3 := HEL.out
            show _ ≤ _
            simp only [List.length_append] at h2 ⊢
            omega
          have HZ := (show Hid (_ ∧ _) from ⟨zl1, zl2⟩)
          clear zl1 zl2
          go_wp2_with fail
          have VA0 : VA (wr.alloc (.cells #[.int .i64 f, .int .i64 g] 44)) wr.heap.size [.int .i64 f, .int .i64 g] 44 := va_new wr [.int .i64 f, .int .i64 g] 44
          have DA := (Below.refl wr.heap.size wr).alloc (Nat.le_refl _) (.cells #[.int .i64 f, .int .i64 g] 44)
          have q0 := VA0.cell 0 (v := .int .i64 f) rfl
          have HVA := (show Hid _ from VA0)
          have KA := (show Hid _ from K.out.step DA)
          have lw : w.heap.size + 1 ≤ wr.heap.size := K.out.size
          clear VA0 z1 z2 hb DA K
          generalize wr.alloc (.cells #[.int .i64 f, .int .i64 g] 44) = wa at *
          go_wp2_with fail
          refine (rint_ok f _ w1').mono ?_
          rintro e w3 ⟨⟨t3, rfl, o3⟩, b3⟩
          have K3 := (show Hid _ from KA.out.step b3)
          have O3 := (show Hid _ from o3.bs)
          have V3 := (show Hid _ from HVA.out.step b3)
          clear o3 b3 KA HVA q0
          go_wp2_with (at_builtin; refine appBg rfl _ _ rfl (w.heap.size + 1) _ (enc (zz f)) _ _ (by rfl) (by rfl) K3.out.own O3.out K3.out.size (by have := lens.out; have := HZ.out; omega) ?_; intro v4 w4 o4 b4 g4; have V4 := V3.out.grown g4 K3.out.own (by decide); have q1 := V4.cell 1 (v := .int .i64 g) rfl)
          have K4 := (show Hid _ from K3.out.app b4 o4)
          clear o4 b4 g4 K3 O3 V3 V4 q1
          refine (rint_ok g _ w2').mono ?_
          rintro e w5 ⟨⟨t5, rfl, o5⟩, b5⟩
          have K5 := (show Hid _ from K4.out.step b5)
          have O5 := (show Hid _ from o5.bs)
          clear o5 b5 K4
          go_wp2_with (at_builtin; refine appB rfl _ _ rfl (w.heap.size + 1) _ (enc (zz g)) _ _ (by rfl) (by rfl) K5.out.own O5.out K5.out.size (by have := lens.out; have := HZ.out; rw [List.length_append]; omega) ?_; intro v6 w6 o6 b6)
          have K6 := (show Hid _ from K5.out.app b6 o6)
          refine ⟨⟨j + 1, by omega, by go_num, ?_⟩, by simp [intOf]; omega⟩
          rw [HE.out]
          show Wr _ _ _ _ _ _
          simpa [List.append_assoc] using K6.out
      · have h3 : ((x.op : Int) == 1) = false := by
          have : ¬ ((x.op : Int) = 1) := by omega
          simpa using this
        go_wp2_with fail
        go_ret
        refine ⟨⟨_, rfl, ?_⟩, K.out.bel⟩
        have := K.out.own.lower (show w.heap.size ≤ w.heap.size + 1 by omega)
        unfold E8.bytes E8.head
        rw [← HN.out, if_neg hop1, List.append_nil]
        exact this
    have hk' : k < N := by omega
    have c1 := K.out.va.cell (2 + k) (E8.cn HX.out tv k (by omega))
    have wb := HWB.out k
    have HE : Hid (nbs x.ns (k + 1) = nbs x.ns k ++ enc (zz (x.ns.getD k 0))) := rfl
    generalize x.ns.getD k 0 = n at *
    have zl1 := zl wb
    have HZ := (show Hid _ from zl1)
    have e1 : (k : Int) < 8 := by omega
    have e2 : (0 : Int) ≤ (k : Int) := by omega
    clear zl1
    go_wp2_with fail
    refine (rint_ok n _ wb).mono ?_
    rintro e w3 ⟨⟨u3, rfl, o3⟩, b3⟩
    have K3 := (show Hid _ from K.out.step b3)
    have O3 := (show Hid _ from o3.bs)
    clear o3 b3 K y0 c1
    go_wp2_with (at_builtin; refine appB rfl _ _ rfl (w.heap.size + 1) _ (enc (zz n)) _ _ (by rfl) (by rfl) K3.out.own O3.out K3.out.size (by have := HL.out; have := HZ.out; omega) ?_; intro v4 w4 o4 b4)
    have K4 := (show Hid _ from K3.out.app b4 o4)
    refine ⟨⟨k + 1, by omega, by go_num, ?_⟩, by simp [intOf]; omega⟩
    rw [HE.out, ← List.append_assoc]
    exact K4
end Go.Proofs.YtcognhhbpapibaaDoor
