/- prod: the document's DocAdd. -/
import Derived.Test.YtgbphbeafomabaaHf
import Derived.Laws.AppendOwnNone
import Derived.Great.BuildSlice
namespace Go.Proofs.Ytgbphbeafomabaa
open Go.RowKit Go.Shelf
set_option linter.unusedVariables false
set_option linter.unusedSimpArgs false

/-- append(l, d...) of a list of the document's -/
theorem appPn {w : World} {o : Oper} {a : Act} {Q : Exit → Act → World → Prop} {K : Act → World → Prop} (s x : Operand) (TS T : TypeId) (pt : PT TS T)
    (ho : o.op = .call { callee := .builtin .append, args := #[s, x], argTypes := #[TS, TS] })
    (B : Nat) (cs bs : List (PV × Value)) (v : Value) (ad : Option Addr) (n c : Nat) (hs : a.eval s = v) (hx : a.eval x = .slice ad n c) (hn : n = bs.length) (hnil : ad = none → c = 0) (hpos : 0 < n → ∃ b off, ad = some ⟨b, off, none⟩) (hlc : n ≤ c)
    (hown : OwnP w B T v cs) (hb : ∀ c ∈ bs, ∃ a n k, c.2 = Value.slice a n k) (hcell : ∀ b off, ad = some ⟨b, off, none⟩ → ∀ j u, (pcs bs)[j]? = some u → w.cell? ⟨b, off + j, none⟩ = some u) (hB : B ≤ w.heap.size) (hl : cs.length + bs.length ≤ 1000)
    (h : ∀ v' w', OwnP w' B T v' (cs ++ bs) → Below B w w' → w.grownBy w' v.ownBlock → K (a.put o.dst v') w') : o.wp Try.prog a w K Q := by
  cases ad with
  | none =>
    obtain rfl : c = 0 := hnil rfl
    obtain rfl : n = 0 := by omega
    obtain rfl : bs = [] := List.length_eq_zero_iff.1 hn.symm
    obtain ⟨hu, i0, hi, _⟩ := pt
    have hrun := run_append_owned_none (P := Try.prog) (w := w) B TS o.type T i0 9 hu hi v cs.length (pcs cs) hown.own
    unfold Oper.wp
    simp [execOp, ho, resolve, invoke, builtin, hs, hx, hrun, Result.andThen]
    exact h v w (by simpa using hown) (Below.refl _ _) (World.grownBy.refl _ _)
  | some ad =>
    refine appPw s x TS T pt ho B cs bs v ad n c hs hx hn hown hb (fun j u hj => ?_) hB hl h
    have hp : 0 < n := by
      have := (List.getElem?_eq_some_iff.1 hj).1
      rw [pcs_len] at this
      omega
    obtain ⟨b, off, e⟩ := hpos hp
    cases e
    rw [Go.WideShapes.add_plain]
    exact hcell b off rfl j u hj
theorem wantIf {o : Oper} {y : Nat → Option Bool} {a : Act} {w : World} {K : Act → World → Prop} {Q : Exit → Act → World → Prop} {k0 : Prop} (h : Region.wanted o y = true) (k : o.wp Try.prog a w K Q) : if Region.wanted o y = true then o.wp Try.prog a w K Q else k0 := by
  rw [if_pos h]
  exact k
theorem fillP (x : PV) (tv : Value) : Instr.fill (fun i => some (i * 9, 9)) ((Array.range (1 * 9)).map (ZP.cells[· % ZP.cells.size]!)) [(0, Value.agg (x.cells tv).toArray)] = some (x.cells tv).toArray := by kernel_rfl
/-- a slice literal of one version -/
theorem bldP {w : World} {o : Oper} {a : Act} {K : Act → World → Prop} {Q : Exit → Act → World → Prop} (TS T : TypeId) (pt : PT TS T) (z : Operand) (ho : o.op = .buildSlice TS 1 #[(0, z)]) (x : PV) (tv : Value) (hz : a.eval z = .agg (x.cells tv).toArray)
    (h : K (a.put o.dst (.slice (some ⟨w.heap.size, 0, none⟩) 1 1)) (w.alloc (.cells (x.cells tv).toArray T))) : o.wp Try.prog a w K Q := by
  obtain ⟨hu, i0, hi, hz0, hz1, hz2⟩ := pt
  refine wp_buildSlice TS T 1 _ ho _ i0 ZP hu hi hz0 (by rw [hz1]; decide) (by rw [hz1]; decide) ?_ h
  rw [hz1]
  simp only [List.map_toArray, List.map_cons, List.map_nil, hz]
  exact fillP x tv
theorem VA.grownP {w w' : World} {q : Nat} {cs : List Value} {T : TypeId} {v : Value} (h : VA w q cs T) (g : w.grownBy w' v.ownBlock) (hne : v.ownBlock ≠ some q) : VA w' q cs T := ⟨(g.block q h.lt (Ne.symm hne)).trans h.blk⟩
theorem OwnP.lower {w : World} {B B' : Nat} {T : TypeId} {v : Value} {cs : List (PV × Value)} (h : OwnP w B T v cs) (hB : B' ≤ B) : OwnP w B' T v cs := by
  refine ⟨h.form, h.own.1, ?_⟩
  rcases h.own.2 with h2 | ⟨g, cap, cur, e, hb, r⟩
  · exact Or.inl h2
  · exact Or.inr ⟨g, cap, cur, e, by omega, r⟩
theorem beqd (a b : Int) : (a == b) = decide (a = b) := rfl
theorem bned (a b : Int) : (a != b) = decide (a ≠ b) := by
  by_cases h : a = b
  · simp [h]
  · simp [h]
/-- what DocAdd answers -/
def DAdd (w w' : World) (S : Nat → Prop) (xs : List PV) (x : PV) (v : Value) (e : Ending) : Prop :=
  ∃ v', e = .returned (.tuple #[v', .int .i64 (addE xs x)]) ∧ (addE xs x ≠ 0 → v' = v) ∧ (addE xs x = 0 → Dl w' (fun b => S b ∨ (w.heap.size ≤ b ∧ Ty w' b)) v' (xs ++ [x]))
theorem addE_doc {xs : List PV} {x : PV} (hc : chk x = 0) (hr : Rise xs) (hf : ∀ y ∈ xs, y.day ≤ 3652059) : addE xs x = if there xs x.id x.day then 8 else if dDt xs x then 9 else if dKd xs x then 11 else if 64 ≤ xs.length then 17 else 0 := by
  unfold addE
  rw [if_neg (fun h => h hc), fol_doc x hr hf]
  cases there xs x.id x.day
  · cases dDt xs x
    · cases dKd xs x
      · rfl
      · rfl
    · rfl
  · rfl
set_option maxRecDepth 100000 in
set_option maxHeartbeats 4000000 in
theorem docadd_ok {S : Nat → Prop} (v : Value) (xs : List PV) (x : PV) (tv : Value) (w : World) (h : Dl w S v xs) (hr : Rise xs) (hf : ∀ y ∈ xs, y.day ≤ 3652059) (hT : Tr w tv x.ts) (hno : ∀ n c, tv = .slice none n c → c = 0) :
    Calls Try.prog 18 #[v, .agg (x.cells tv).toArray] w fun e w' => DAdd w w' S xs x v e ∧ Below w.heap.size w w' := by
  obtain ⟨ta, tn, tc, rfl⟩ : ∃ a n c, tv = .slice a n c := by obtain ⟨_, a, c, e, _⟩ := hT; exact ⟨a, _, c, e⟩
  obtain ⟨n, hn⟩ : ∃ n, n = xs.length := ⟨_, rfl⟩
  obtain ⟨sa, sc, rfl, g1, g2⟩ : ∃ a c, v = .slice a n c ∧ n ≤ c ∧ c ≤ 9223372036854775807 := by obtain ⟨a, c, e, h1, h2, _⟩ := h; exact ⟨a, c, by rw [hn]; exact e, by rw [hn]; exact h1, h2⟩
  have HV := (show Hid _ from va_new w (x.cells (.slice ta tn tc)) 24)
  have HD := (show Hid _ from (Below.refl w.heap.size w).alloc (Nat.le_refl _) (.cells (x.cells (.slice ta tn tc)).toArray 24))
  have HTT := (show Hid _ from hT.step HD.out)
  have HL := (show Hid _ from (h.mono (S' := fun b => S b ∧ b < w.heap.size) (fun b hb hs => ⟨hs, hb⟩)).step HD.out)
  have HN := (show Hid _ from hn)
  have HNO := (show Hid _ from hno)
  have hcr := chk_range x
  by_cases hc : chk x = 0
  · have HA := (show Hid _ from addE_doc hc hr hf)
    have HC := (show Hid _ from hc)
    clear h hr hf hT hn hno
    go_enter Try.func18, Try.ntmps18
    go_wp2_with (refine ldA rfl 24 _ rfl w.heap.size (by rfl) _ _ HV.out _ Try.underlying24 rfl infoR ?_)
    refine (rcheck_ok x _ _ HTT.out).mono ?_
    rintro e w1 ⟨rfl, b1⟩
    rw [hc]
    have V1 := (show Hid _ from HV.out.step b1)
    have L1 := (show Hid _ from HL.out.step b1)
    have T1 := (show Hid _ from HTT.out.step b1)
    have D1 := (show Hid _ from HD.out.trans (b1.mono HD.out.size))
    clear b1 HV HL HTT HD hc
    go_wp2_with fail
    go_loopw [7, 8, 9, 20] (fun f1 f2 f3 i wr => ∃ (k : Nat) (b1 b2 b3 : Bool), k ≤ n ∧ i = .int .i64 k ∧ f1 = .bool b1 ∧ f2 = .bool b2 ∧ f3 = .bool b3 ∧ Hid (there (xs.take k) x.id x.day = b1 ∧ dDt (xs.take k) x = b2 ∧ dKd (xs.take k) x = b3) ∧ Hid (Below w1.heap.size w1 wr)) (fun _ _ _ i _ => n - (intOf i).toNat)
    case atStart => exact ⟨0, false, false, false, by omega, rfl, rfl, rfl, rfl, ⟨rfl, rfl, rfl⟩, Below.refl _ _⟩
    case round =>
      obtain ⟨k, b1, b2, b3, hk, rfl, rfl, rfl, rfl, HF, HB⟩ := hrel
      have D2 := (show Hid _ from D1.out.trans (HB.out.mono D1.out.size))
      have V2 := (show Hid _ from V1.out.step HB.out)
      by_cases hkn : k = n
      · subst hkn
        obtain ⟨f1, f2, f3⟩ : there xs x.id x.day = b1 ∧ dDt xs x = b2 ∧ dKd xs x = b3 := by
          have := HF.out
          rw [show xs.take k = xs by rw [HN.out]; exact List.take_length] at this
          exact this
        have HA' := (show Hid _ from HA.out)
        rw [f1, f2, f3, ← HN.out] at HA'
        clear f1 f2 f3 HF HA
        have L2 := (show Hid _ from L1.out.step HB.out)
        have T2 := (show Hid _ from T1.out.step HB.out)
        clear L1 T1 V1 D1 HB
        cases b1
        · cases b2
          · cases b3
            · by_cases h64 : 64 ≤ k
              · have HE : Hid (addE xs x = 17) := by
                  have := HA'.out
                  rw [if_neg (by simp), if_neg (by simp), if_neg (by simp), if_pos h64] at this
                  exact this
                have d1 : (64 : Int) ≤ (k : Int) := by omega
                clear HA'
                go_wp2_with fail
                refine bodyPost_ret (v := .tuple #[.slice sa k sc, .int .i64 17]) (by simp [results, Try.results18, go_sem]) rfl ?_
                exact ⟨⟨_, by rw [HE.out], fun _ => rfl, fun h => by rw [HE.out] at h; cases h⟩, D2.out⟩
              · have HE : Hid (addE xs x = 0) := by
                  have := HA'.out
                  rw [if_neg (by simp), if_neg (by simp), if_neg (by simp), if_neg h64] at this
                  exact this
                have d1 : ¬ (64 : Int) ≤ (k : Int) := by omega
                clear HA'
                have HLEN : Hid (x.ts.length ≤ 8) := chk_len HC.out
                have D3 := (Below.refl wr.heap.size wr).alloc (Nat.le_refl _) (.cells #[] 36)
                have V3 := V2.out.step D3
                have p8 := V3.cell 8 (v := .slice ta tn tc) rfl
                have HO := (show Hid _ from ownT_made wr)
                have T3 := (show Hid _ from T2.out.step D3)
                have HV3 := (show Hid _ from V3)
                have HD3 := (show Hid _ from D3)
                have lw := V2.out.lt
                clear V3 D3
                go_upto_region 22 with (at_builtin; (refine appTr rfl _ _ rfl wr.heap.size [] x.ts _ _ (by rfl) (by rfl) HO.out T3.out HNO.out HD3.out.size (by have := HLEN.out; simp; omega) ?_; intro v2 w2 o2 b2 g2; rw [List.nil_append] at o2; obtain ⟨a2, n2, c2, rfl⟩ := o2.form; have V4 := HV3.out.keep b2 lw; have c8 := V4.cell 8 (v := .slice ta tn tc) rfl; have f8 := V4.free 8))
                have V6 : Hid (VA (w2.setCell ⟨w.heap.size, 8, none⟩ (.slice a2 n2 c2)) w.heap.size (x.cells (.slice a2 n2 c2)) 24) := V4.set 8 (.slice a2 n2 c2)
                have O6 := (show Hid _ from o2.upd (upd_set w2 w.heap.size 8 (.slice a2 n2 c2)) lw)
                have B2 := HD3.out.trans b2
                have L6 := (show Hid _ from (L2.out.step B2).upd (upd_set w2 w.heap.size 8 (.slice a2 n2 c2)) (fun h => Nat.lt_irrefl _ h.2))
                have D6 := (show Hid _ from (upd_set w2 w.heap.size 8 (.slice a2 n2 c2)).bel (D2.out.trans (B2.mono (D2.out.size))) (Nat.le_refl _))
                have SZ : Hid (w.heap.size ≤ wr.heap.size) := D2.out.size
                clear c8 f8 p8 V4 o2 b2 g2 B2 HV3 HO T3 HD3 L2 T2 V2 D2
                generalize w2.setCell ⟨w.heap.size, 8, none⟩ (.slice a2 n2 c2) = w6 at *
                obtain ⟨cs, ecs, hcs, hcell⟩ := L6.out.pairs
                have HFIN : Hid (∀ v' w', OwnP w' w6.heap.size 24 v' (cs ++ [(x, .slice a2 n2 c2)]) → Below w6.heap.size w6 w' → DAdd w w' S xs x (.slice sa k sc) (.returned (.tuple #[v', .int .i64 0])) ∧ Below w.heap.size w w') := by
                  intro v' w' ow bw
                  refine ⟨⟨v', by rw [HE.out], fun h => absurd HE.out h, fun _ => ?_⟩, D6.out.trans (bw.mono D6.out.size)⟩
                  have := ow.dl (S := fun b => S b ∨ (w.heap.size ≤ b ∧ Ty w' b)) (fun g e => Or.inr ⟨Nat.le_trans D6.out.size (ow.block g e), ow.ty g e⟩) (fun c hc => ?_)
                  · rw [List.map_append, ecs] at this
                    exact this
                  · rcases List.mem_append.1 hc with hc | hc
                    · exact ⟨(hcs c hc).1.step bw, (hcs c hc).2.mono (fun b hb => Or.inl hb.1)⟩
                    · simp at hc
                      subst hc
                      refine ⟨O6.out.tr.step bw, fun b off m c e hm => Or.inr ?_⟩
                      cases e
                      refine ⟨?_, (O6.out.step bw).ty b rfl⟩
                      have h1 := O6.out.block b rfl
                      have h2 := SZ.out
                      omega
                have HCF : Hid (∀ c ∈ cs, ∃ a n k, c.2 = Value.slice a n k) := fun c hc => by
                  obtain ⟨_, a, c', e, _⟩ := (hcs c hc).1
                  exact ⟨a, _, c', e⟩
                have HCC := (show Hid _ from hcell)
                have HCL : Hid (k = cs.length) := by
                  have := congrArg List.length ecs
                  rw [List.length_map] at this
                  show k = cs.length
                  rw [this, HN.out]
                have HNC : Hid ((sa = none → sc = 0) ∧ (0 < k → ∃ b off, sa = some ⟨b, off, none⟩ ∧ b < w6.heap.size)) := by
                  obtain ⟨a', c', e, _, _, hnil, h3⟩ := L6.out
                  cases e
                  exact ⟨hnil, fun h0 => by obtain ⟨b, off, ea, hb, _⟩ := h3 (by rw [← HN.out]; exact h0); exact ⟨b, off, ea, hb⟩⟩
                have HCB : Hid (∀ W, Below w6.heap.size w6 W → ∀ b off, sa = some ⟨b, off, none⟩ → ∀ j u, (pcs cs)[j]? = some u → W.cell? ⟨b, off + j, none⟩ = some u) := by
                  intro W hW b off e j u hj
                  have h1 := HCC.out b off e j u hj
                  exact (hW.cell (p := ⟨b, off + j, none⟩) (World.block_lt_of_cell? _ _ h1)).trans h1
                clear hcs hcell ecs HCC L6 O6 D6 SZ HE
                refine wp_region_noPanic ?_
                refine wp_region_held_drew (S := fun w' => Below w6.heap.size w6 w') (by kernel_rfl) ((Below.refl _ _).drew) (fun hHeld => ?_)
                refine takeD 1 81 (.slice sa k sc) (by exact rfl) rfl (by kernel_rfl) (by kernel_rfl) (by kernel_rfl) (fun _ _ _ h => h) (Or.inl ⟨by rfl, ?_⟩) (by assumption) ?_
                · intro wq hS
                  go_simp
                simp only [Act.put, List.setIfInBounds_toArray, List.set_cons_zero, List.set_cons_succ]
                refine takeD 3 83 (.agg (x.cells (.slice a2 n2 c2)).toArray) (by exact rfl) rfl (by kernel_rfl) (by kernel_rfl) (by kernel_rfl) (fun _ _ _ h => h) (yieldsIf_load_mid (by rfl) _ _ rfl _ _ rfl (x.cells (.slice a2 n2 c2)) _ (fun wq hS => (fun j u hj => by rw [Nat.zero_add]; exact (V6.out.step hS).cell j hj)) Try.underlying24 rfl infoR) (by assumption) ?_
                simp only [Act.put, List.setIfInBounds_toArray, List.set_cons_zero, List.set_cons_succ]
                have B0 := (Below.refl w6.heap.size w6).drew
                clear hHeld
                generalize w6.drew = wd at *
                refine wpAnyH_ready (rs := [0, 4]) (by kernel_rfl) (by simp) ?_
                refine AllReadyH.cons (by exact rfl) (fun K hK => ?_) (AllReadyH.cons (by exact rfl) (fun K hK => ?_) AllReadyH.nil)
                · go_simp
                  have B1 := B0.alloc B0.size (.cells #[] 24)
                  have O1 := (ownP_made wd 24).lower B0.size
                  have lr : wd.heap.size < (wd.alloc (.cells #[] 24)).heap.size := by simp
                  skip
                  refine hK.out _ _ B1 (fun hHeld => ?_)
                  clear hK K hHeld
                  generalize wd.alloc (.cells #[] 24) = W1 at *
                  refine wpAnyH_ready (rs := [2, 4]) (by kernel_rfl) (by simp) ?_
                  refine AllReadyH.cons (by exact rfl) (fun K hK => ?_) (AllReadyH.cons (by exact rfl) (fun K hK => ?_) AllReadyH.nil)
                  · refine wantIf (by rfl) ?_
                    refine appPn _ _ 38 24 ptR (by rfl) w6.heap.size [] cs _ sa k sc (by rfl) (by rfl) HCL.out HNC.out.1 (fun h => (HNC.out.2 h).imp fun b h => h.imp fun off h => h.1) g1 O1 HCF.out (HCB.out W1 B1) B1.size (by have := HCL.out; simp; omega) ?_
                    intro v3 W2 O2 bs gs
                    rw [List.nil_append] at O2
                    have B2 := B1.trans bs
                    skip
                    refine hK.out _ _ B2 (fun hHeld => ?_)
                    simp only [Act.put, List.setIfInBounds_toArray, List.set_cons_zero, List.set_cons_succ]
                    clear hK K hHeld bs gs
                    refine wpAnyH_ready (rs := [4]) (by kernel_rfl) (by simp) ?_
                    refine AllReadyH.cons (by exact rfl) (fun K hK => ?_) AllReadyH.nil
                    refine wantIf (by rfl) ?_
                    refine bldP 38 24 ptR _ (by rfl) x (.slice a2 n2 c2) (by rfl) ?_
                    have B3 := B2.alloc B2.size (.cells (x.cells (.slice a2 n2 c2)).toArray 24)
                    have V3 := va_new W2 (x.cells (.slice a2 n2 c2)) 24
                    have lt : W2.heap.size < (W2.alloc (.cells (x.cells (.slice a2 n2 c2)).toArray 24)).heap.size := by simp
                    have O3 := O2.step ((Below.refl _ _).alloc (Nat.le_refl _) (.cells (x.cells (.slice a2 n2 c2)).toArray 24))
                    refine hK.out _ _ B3 (fun hHeld => ?_)
                    simp only [Act.put, List.setIfInBounds_toArray, List.set_cons_zero, List.set_cons_succ]
                    clear hK K hHeld
                    generalize W2.alloc (.cells (x.cells (.slice a2 n2 c2)).toArray 24) = W3 at *
                    refine wpAnyH_ready (rs := [5]) (by kernel_rfl) (by simp) ?_
                    refine AllReadyH.cons (by exact rfl) (fun K hK => ?_) AllReadyH.nil
                    refine wantIf (by rfl) ?_
                    refine appPw _ _ 38 24 ptR (by rfl) w6.heap.size cs [(x, .slice a2 n2 c2)] _ ⟨W2.heap.size, 0, none⟩ 1 1 (by rfl) (by rfl) rfl O3 (fun c hc => by simp at hc; subst hc; exact ⟨_, _, _, rfl⟩) (fun j u hj => by rw [Go.WideShapes.add_plain, Nat.zero_add]; exact V3.cell j (by simpa [pcs] using hj)) B3.size (by have := HCL.out; simp; omega) ?_
                    intro v9 w9 o9 b9 g9
                    have B9 := B3.trans b9
                    refine hK.out _ _ B9 (fun hHeld => ?_)
                    simp only [Act.put, List.setIfInBounds_toArray, List.set_cons_zero, List.set_cons_succ]
                    clear hK K
                    refine takeD 6 4 (v9) (by exact rfl) rfl (by kernel_rfl) (by kernel_rfl) (by kernel_rfl) (fun _ _ _ h => h) (Or.inl ⟨by rfl, ?_⟩) (by assumption) ?_
                    · intro wq hS
                      go_simp
                    simp only [Act.put, List.setIfInBounds_toArray, List.set_cons_zero, List.set_cons_succ]
                    refine takeD 7 5 (.int .i64 0) (by exact rfl) rfl (by kernel_rfl) (by kernel_rfl) (by kernel_rfl) (fun _ _ _ h => h) (Or.inl ⟨by rfl, ?_⟩) (by assumption) ?_
                    · intro wq hS
                      go_simp
                    simp only [Act.put, List.setIfInBounds_toArray, List.set_cons_zero, List.set_cons_succ]
                    refine wpAnyH_done (by kernel_rfl) ?_ _
                    refine NoPanic.normal ?_
                    go_wp2_with fail
                    refine bodyPost_ret (v := .tuple #[v9, .int .i64 0]) (by simp [results, Try.results18, go_sem]) rfl (HFIN.out v9 w9 o9 B9)
                  · refine wantIf (by rfl) ?_
                    refine bldP 38 24 ptR _ (by rfl) x (.slice a2 n2 c2) (by rfl) ?_
                    have B2 := B1.alloc B1.size (.cells (x.cells (.slice a2 n2 c2)).toArray 24)
                    have V2 := va_new W1 (x.cells (.slice a2 n2 c2)) 24
                    have lt : W1.heap.size < (W1.alloc (.cells (x.cells (.slice a2 n2 c2)).toArray 24)).heap.size := by simp
                    have O2 := O1.step ((Below.refl _ _).alloc (Nat.le_refl _) (.cells (x.cells (.slice a2 n2 c2)).toArray 24))
                    refine hK.out _ _ B2 (fun hHeld => ?_)
                    simp only [Act.put, List.setIfInBounds_toArray, List.set_cons_zero, List.set_cons_succ]
                    clear hK K hHeld
                    generalize W1.alloc (.cells (x.cells (.slice a2 n2 c2)).toArray 24) = W2 at *
                    refine wpAnyH_ready (rs := [2]) (by kernel_rfl) (by simp) ?_
                    refine AllReadyH.cons (by exact rfl) (fun K hK => ?_) AllReadyH.nil
                    refine wantIf (by rfl) ?_
                    refine appPn _ _ 38 24 ptR (by rfl) w6.heap.size [] cs _ sa k sc (by rfl) (by rfl) HCL.out HNC.out.1 (fun h => (HNC.out.2 h).imp fun b h => h.imp fun off h => h.1) g1 O2 HCF.out (HCB.out W2 B2) B2.size (by have := HCL.out; simp; omega) ?_
                    intro v3 W3 O3 bs gs
                    rw [List.nil_append] at O3
                    have B3 := B2.trans bs
                    have V3 := V2.grownP gs (fun e => by simp [Value.ownBlock] at e; omega)
                    refine hK.out _ _ B3 (fun hHeld => ?_)
                    simp only [Act.put, List.setIfInBounds_toArray, List.set_cons_zero, List.set_cons_succ]
                    clear hK K hHeld bs gs
                    refine wpAnyH_ready (rs := [5]) (by kernel_rfl) (by simp) ?_
                    refine AllReadyH.cons (by exact rfl) (fun K hK => ?_) AllReadyH.nil
                    refine wantIf (by rfl) ?_
                    refine appPw _ _ 38 24 ptR (by rfl) w6.heap.size cs [(x, .slice a2 n2 c2)] _ ⟨W1.heap.size, 0, none⟩ 1 1 (by rfl) (by rfl) rfl O3 (fun c hc => by simp at hc; subst hc; exact ⟨_, _, _, rfl⟩) (fun j u hj => by rw [Go.WideShapes.add_plain, Nat.zero_add]; exact V3.cell j (by simpa [pcs] using hj)) B3.size (by have := HCL.out; simp; omega) ?_
                    intro v9 w9 o9 b9 g9
                    have B9 := B3.trans b9
                    refine hK.out _ _ B9 (fun hHeld => ?_)
                    simp only [Act.put, List.setIfInBounds_toArray, List.set_cons_zero, List.set_cons_succ]
                    clear hK K
                    refine takeD 6 4 (v9) (by exact rfl) rfl (by kernel_rfl) (by kernel_rfl) (by kernel_rfl) (fun _ _ _ h => h) (Or.inl ⟨by rfl, ?_⟩) (by assumption) ?_
                    · intro wq hS
                      go_simp
                    simp only [Act.put, List.setIfInBounds_toArray, List.set_cons_zero, List.set_cons_succ]
                    refine takeD 7 5 (.int .i64 0) (by exact rfl) rfl (by kernel_rfl) (by kernel_rfl) (by kernel_rfl) (fun _ _ _ h => h) (Or.inl ⟨by rfl, ?_⟩) (by assumption) ?_
                    · intro wq hS
                      go_simp
                    simp only [Act.put, List.setIfInBounds_toArray, List.set_cons_zero, List.set_cons_succ]
                    refine wpAnyH_done (by kernel_rfl) ?_ _
                    refine NoPanic.normal ?_
                    go_wp2_with fail
                    refine bodyPost_ret (v := .tuple #[v9, .int .i64 0]) (by simp [results, Try.results18, go_sem]) rfl (HFIN.out v9 w9 o9 B9)
                · refine wantIf (by rfl) ?_
                  refine bldP 38 24 ptR _ (by rfl) x (.slice a2 n2 c2) (by rfl) ?_
                  have B1 := B0.alloc B0.size (.cells (x.cells (.slice a2 n2 c2)).toArray 24)
                  have V1 := va_new wd (x.cells (.slice a2 n2 c2)) 24
                  have lt : wd.heap.size < (wd.alloc (.cells (x.cells (.slice a2 n2 c2)).toArray 24)).heap.size := by simp
                  skip
                  refine hK.out _ _ B1 (fun hHeld => ?_)
                  simp only [Act.put, List.setIfInBounds_toArray, List.set_cons_zero, List.set_cons_succ]
                  clear hK K hHeld
                  generalize wd.alloc (.cells (x.cells (.slice a2 n2 c2)).toArray 24) = W1 at *
                  refine wpAnyH_ready (rs := [0]) (by kernel_rfl) (by simp) ?_
                  refine AllReadyH.cons (by exact rfl) (fun K hK => ?_) AllReadyH.nil
                  go_simp
                  have B2 := B1.alloc B1.size (.cells #[] 24)
                  have O2 := (ownP_made W1 24).lower B1.size
                  have lr : W1.heap.size < (W1.alloc (.cells #[] 24)).heap.size := by simp
                  have V2 := V1.alloc (.cells #[] 24)
                  refine hK.out _ _ B2 (fun hHeld => ?_)
                  clear hK K hHeld
                  generalize W1.alloc (.cells #[] 24) = W2 at *
                  refine wpAnyH_ready (rs := [2]) (by kernel_rfl) (by simp) ?_
                  refine AllReadyH.cons (by exact rfl) (fun K hK => ?_) AllReadyH.nil
                  refine wantIf (by rfl) ?_
                  refine appPn _ _ 38 24 ptR (by rfl) w6.heap.size [] cs _ sa k sc (by rfl) (by rfl) HCL.out HNC.out.1 (fun h => (HNC.out.2 h).imp fun b h => h.imp fun off h => h.1) g1 O2 HCF.out (HCB.out W2 B2) B2.size (by have := HCL.out; simp; omega) ?_
                  intro v3 W3 O3 bs gs
                  rw [List.nil_append] at O3
                  have B3 := B2.trans bs
                  have V3 := V2.grownP gs (fun e => by simp [Value.ownBlock] at e; omega)
                  refine hK.out _ _ B3 (fun hHeld => ?_)
                  simp only [Act.put, List.setIfInBounds_toArray, List.set_cons_zero, List.set_cons_succ]
                  clear hK K hHeld bs gs
                  refine wpAnyH_ready (rs := [5]) (by kernel_rfl) (by simp) ?_
                  refine AllReadyH.cons (by exact rfl) (fun K hK => ?_) AllReadyH.nil
                  refine wantIf (by rfl) ?_
                  refine appPw _ _ 38 24 ptR (by rfl) w6.heap.size cs [(x, .slice a2 n2 c2)] _ ⟨wd.heap.size, 0, none⟩ 1 1 (by rfl) (by rfl) rfl O3 (fun c hc => by simp at hc; subst hc; exact ⟨_, _, _, rfl⟩) (fun j u hj => by rw [Go.WideShapes.add_plain, Nat.zero_add]; exact V3.cell j (by simpa [pcs] using hj)) B3.size (by have := HCL.out; simp; omega) ?_
                  intro v9 w9 o9 b9 g9
                  have B9 := B3.trans b9
                  refine hK.out _ _ B9 (fun hHeld => ?_)
                  simp only [Act.put, List.setIfInBounds_toArray, List.set_cons_zero, List.set_cons_succ]
                  clear hK K
                  refine takeD 6 4 (v9) (by exact rfl) rfl (by kernel_rfl) (by kernel_rfl) (by kernel_rfl) (fun _ _ _ h => h) (Or.inl ⟨by rfl, ?_⟩) (by assumption) ?_
                  · intro wq hS
                    go_simp
                  simp only [Act.put, List.setIfInBounds_toArray, List.set_cons_zero, List.set_cons_succ]
                  refine takeD 7 5 (.int .i64 0) (by exact rfl) rfl (by kernel_rfl) (by kernel_rfl) (by kernel_rfl) (fun _ _ _ h => h) (Or.inl ⟨by rfl, ?_⟩) (by assumption) ?_
                  · intro wq hS
                    go_simp
                  simp only [Act.put, List.setIfInBounds_toArray, List.set_cons_zero, List.set_cons_succ]
                  refine wpAnyH_done (by kernel_rfl) ?_ _
                  refine NoPanic.normal ?_
                  go_wp2_with fail
                  refine bodyPost_ret (v := .tuple #[v9, .int .i64 0]) (by simp [results, Try.results18, go_sem]) rfl (HFIN.out v9 w9 o9 B9)
            · have HE : Hid (addE xs x = 11) := by
                have := HA'.out
                rw [if_neg (by simp), if_neg (by simp), if_pos rfl] at this
                exact this
              clear HA'
              go_wp2_with fail
              refine bodyPost_ret (v := .tuple #[.slice sa k sc, .int .i64 11]) (by simp [results, Try.results18, go_sem]) rfl ?_
              exact ⟨⟨_, by rw [HE.out], fun _ => rfl, fun h => by rw [HE.out] at h; cases h⟩, D2.out⟩
          · have HE : Hid (addE xs x = 9) := by
              have := HA'.out
              rw [if_neg (by simp), if_pos rfl] at this
              exact this
            clear HA'
            go_wp2_with fail
            refine bodyPost_ret (v := .tuple #[.slice sa k sc, .int .i64 9]) (by simp [results, Try.results18, go_sem]) rfl ?_
            exact ⟨⟨_, by rw [HE.out], fun _ => rfl, fun h => by rw [HE.out] at h; cases h⟩, D2.out⟩
        · have HE : Hid (addE xs x = 8) := by
            have := HA'.out
            rw [if_pos rfl] at this
            exact this
          clear HA'
          go_wp2_with fail
          refine bodyPost_ret (v := .tuple #[.slice sa k sc, .int .i64 8]) (by simp [results, Try.results18, go_sem]) rfl ?_
          exact ⟨⟨_, by rw [HE.out], fun _ => rfl, fun h => by rw [HE.out] at h; cases h⟩, D2.out⟩
      · have hk' : k < n := by omega
        have q1 : (0 : Int) ≤ (k : Int) := by omega
        have q2 : (k : Int) < (n : Int) := by omega
        obtain ⟨b, off, y, yv, rfl, hb, hy, hcell0, hTy, _⟩ := L1.out.at k hk'
        have hkx : k < xs.length := by rw [← HN.out]; exact hk'
        have hyk : xs[k] = y := by
          rw [List.getElem?_eq_getElem hkx] at hy
          exact Option.some.inj hy
        have HCL : Hid (∀ i u, (y.cells yv)[i]? = some u → wr.cell? ⟨b, off + k * 9 + i, none⟩ = some u) := fun i u hi => (HB.out.cell (p := ⟨b, off + k * 9 + i, none⟩) hb).trans (hcell0 i u hi)
        have HNX : Hid (there (xs.take (k + 1)) x.id x.day = (b1 || decide (y.id = x.id ∧ y.day = x.day)) ∧ dDt (xs.take (k + 1)) x = (b2 || decide (y.id = x.id ∧ x.day < y.day)) ∧ dKd (xs.take (k + 1)) x = (b3 || decide (y.id = x.id ∧ (y.kind ≠ x.kind ∨ y.cur ≠ x.cur)))) := by
          have := HF.out
          refine ⟨?_, ?_, ?_⟩
          · unfold there at this ⊢
            rw [any_take hkx, this.1, hyk]
          · unfold dDt at this ⊢
            rw [any_take hkx, this.2.1, hyk]
          · unfold dKd at this ⊢
            rw [any_take hkx, this.2.2, hyk]
        obtain ⟨ya, yn, yc, rfl⟩ : ∃ a n c, yv = .slice a n c := by obtain ⟨_, a, c, e, _⟩ := hTy; exact ⟨a, _, c, e⟩
        clear hcell0 hTy hy hyk hkx hb HF
        go_upto_region 8 with (first
          | (refine ldM rfl 24 _ rfl b (off + k * 9) (by rfl) (y.cells (.slice ya yn yc)) HCL.out _ Try.underlying24 rfl infoR ?_)
          | (refine stA rfl 24 _ _ rfl wr.heap.size (by rfl) _ (y.cells (.slice ya yn yc)) (by rfl) 24 (va_new wr [.int .i64 0, .int .i64 0, .int .i64 0, .int .i64 0, .int .i64 0, .int .i64 0, .int .i64 0, .int .i64 0, .slice none 0 0] 24) infoR rfl (pv_one _ ⟨_, _, _, rfl⟩) ?_; intro w5 V5 U5))
        have B5 : Below wr.heap.size wr w5 := U5.bel ((Below.refl _ _).alloc (Nat.le_refl _) _) (Nat.le_refl _)
        have X5 := V2.out.step B5
        have y0 := V5.cell 0 (v := .int .i64 y.id) rfl
        have y1 := V5.cell 1 (v := .int .i64 y.kind) rfl
        have y2 := V5.cell 2 (v := .int .i64 y.cur) rfl
        have y3 := V5.cell 3 (v := .int .i64 y.day) rfl
        have x0 := X5.cell 0 (v := .int .i64 x.id) rfl
        have x1 := X5.cell 1 (v := .int .i64 x.kind) rfl
        have x2 := X5.cell 2 (v := .int .i64 x.cur) rfl
        have x3 := X5.cell 3 (v := .int .i64 x.day) rfl
        have D5 := (show Hid _ from HB.out.trans (B5.mono HB.out.size))
        clear V5 U5 B5 HCL X5 V2 V1 L1 T1 HA HC D1 D2 HB
        by_cases t1 : y.id = x.id
        · have e1 : (y.id == x.id) = true := by simpa using t1
          have T1 := (show Hid _ from t1)
          clear t1
          cases b1
          · cases b2
            · cases b3
              · by_cases hkk : y.kind = x.kind
                · have e2 : (y.kind != x.kind) = false := by simpa using hkk
                  have NX : Hid (there (xs.take (k + 1)) x.id x.day = decide (y.day = x.day) ∧ dDt (xs.take (k + 1)) x = decide (x.day < y.day) ∧ dKd (xs.take (k + 1)) x = decide (y.cur ≠ x.cur)) := by
                    have := HNX.out
                    have T := T1.out
                    show _ ∧ _
                    simpa [T, hkk] using this
                  go_wp2_with fail
                  exact ⟨⟨k + 1, decide (y.day = x.day), decide (x.day < y.day), decide (y.cur ≠ x.cur), by omega, by go_num, by first | rfl | rw [beqd], by first | rfl | rw [beqd], by first | rfl | rw [bned], NX.out, D5.out⟩, by simp [intOf]; omega⟩
                · have e2 : (y.kind != x.kind) = true := by simpa using hkk
                  have NX : Hid (there (xs.take (k + 1)) x.id x.day = decide (y.day = x.day) ∧ dDt (xs.take (k + 1)) x = decide (x.day < y.day) ∧ dKd (xs.take (k + 1)) x = true) := by
                    have := HNX.out
                    have T := T1.out
                    show _ ∧ _
                    simpa [T, hkk] using this
                  go_wp2_with fail
                  exact ⟨⟨k + 1, decide (y.day = x.day), decide (x.day < y.day), true, by omega, by go_num, by first | rfl | rw [beqd], by first | rfl | rw [beqd], by first | rfl | rw [bned], NX.out, D5.out⟩, by simp [intOf]; omega⟩
              · have NX : Hid (there (xs.take (k + 1)) x.id x.day = decide (y.day = x.day) ∧ dDt (xs.take (k + 1)) x = decide (x.day < y.day) ∧ dKd (xs.take (k + 1)) x = true) := by
                  have := HNX.out
                  have T := T1.out
                  show _ ∧ _
                  simpa [T] using this
                go_wp2_with fail
                exact ⟨⟨k + 1, decide (y.day = x.day), decide (x.day < y.day), true, by omega, by go_num, by first | rfl | rw [beqd], by first | rfl | rw [beqd], by first | rfl | rw [bned], NX.out, D5.out⟩, by simp [intOf]; omega⟩
            · cases b3
              · by_cases hkk : y.kind = x.kind
                · have e2 : (y.kind != x.kind) = false := by simpa using hkk
                  have NX : Hid (there (xs.take (k + 1)) x.id x.day = decide (y.day = x.day) ∧ dDt (xs.take (k + 1)) x = true ∧ dKd (xs.take (k + 1)) x = decide (y.cur ≠ x.cur)) := by
                    have := HNX.out
                    have T := T1.out
                    show _ ∧ _
                    simpa [T, hkk] using this
                  go_wp2_with fail
                  exact ⟨⟨k + 1, decide (y.day = x.day), true, decide (y.cur ≠ x.cur), by omega, by go_num, by first | rfl | rw [beqd], by first | rfl | rw [beqd], by first | rfl | rw [bned], NX.out, D5.out⟩, by simp [intOf]; omega⟩
                · have e2 : (y.kind != x.kind) = true := by simpa using hkk
                  have NX : Hid (there (xs.take (k + 1)) x.id x.day = decide (y.day = x.day) ∧ dDt (xs.take (k + 1)) x = true ∧ dKd (xs.take (k + 1)) x = true) := by
                    have := HNX.out
                    have T := T1.out
                    show _ ∧ _
                    simpa [T, hkk] using this
                  go_wp2_with fail
                  exact ⟨⟨k + 1, decide (y.day = x.day), true, true, by omega, by go_num, by first | rfl | rw [beqd], by first | rfl | rw [beqd], by first | rfl | rw [bned], NX.out, D5.out⟩, by simp [intOf]; omega⟩
              · have NX : Hid (there (xs.take (k + 1)) x.id x.day = decide (y.day = x.day) ∧ dDt (xs.take (k + 1)) x = true ∧ dKd (xs.take (k + 1)) x = true) := by
                  have := HNX.out
                  have T := T1.out
                  show _ ∧ _
                  simpa [T] using this
                go_wp2_with fail
                exact ⟨⟨k + 1, decide (y.day = x.day), true, true, by omega, by go_num, by first | rfl | rw [beqd], by first | rfl | rw [beqd], by first | rfl | rw [bned], NX.out, D5.out⟩, by simp [intOf]; omega⟩
          · cases b2
            · cases b3
              · by_cases hkk : y.kind = x.kind
                · have e2 : (y.kind != x.kind) = false := by simpa using hkk
                  have NX : Hid (there (xs.take (k + 1)) x.id x.day = true ∧ dDt (xs.take (k + 1)) x = decide (x.day < y.day) ∧ dKd (xs.take (k + 1)) x = decide (y.cur ≠ x.cur)) := by
                    have := HNX.out
                    have T := T1.out
                    show _ ∧ _
                    simpa [T, hkk] using this
                  go_wp2_with fail
                  exact ⟨⟨k + 1, true, decide (x.day < y.day), decide (y.cur ≠ x.cur), by omega, by go_num, by first | rfl | rw [beqd], by first | rfl | rw [beqd], by first | rfl | rw [bned], NX.out, D5.out⟩, by simp [intOf]; omega⟩
                · have e2 : (y.kind != x.kind) = true := by simpa using hkk
                  have NX : Hid (there (xs.take (k + 1)) x.id x.day = true ∧ dDt (xs.take (k + 1)) x = decide (x.day < y.day) ∧ dKd (xs.take (k + 1)) x = true) := by
                    have := HNX.out
                    have T := T1.out
                    show _ ∧ _
                    simpa [T, hkk] using this
                  go_wp2_with fail
                  exact ⟨⟨k + 1, true, decide (x.day < y.day), true, by omega, by go_num, by first | rfl | rw [beqd], by first | rfl | rw [beqd], by first | rfl | rw [bned], NX.out, D5.out⟩, by simp [intOf]; omega⟩
              · have NX : Hid (there (xs.take (k + 1)) x.id x.day = true ∧ dDt (xs.take (k + 1)) x = decide (x.day < y.day) ∧ dKd (xs.take (k + 1)) x = true) := by
                  have := HNX.out
                  have T := T1.out
                  show _ ∧ _
                  simpa [T] using this
                go_wp2_with fail
                exact ⟨⟨k + 1, true, decide (x.day < y.day), true, by omega, by go_num, by first | rfl | rw [beqd], by first | rfl | rw [beqd], by first | rfl | rw [bned], NX.out, D5.out⟩, by simp [intOf]; omega⟩
            · cases b3
              · by_cases hkk : y.kind = x.kind
                · have e2 : (y.kind != x.kind) = false := by simpa using hkk
                  have NX : Hid (there (xs.take (k + 1)) x.id x.day = true ∧ dDt (xs.take (k + 1)) x = true ∧ dKd (xs.take (k + 1)) x = decide (y.cur ≠ x.cur)) := by
                    have := HNX.out
                    have T := T1.out
                    show _ ∧ _
                    simpa [T, hkk] using this
                  go_wp2_with fail
                  exact ⟨⟨k + 1, true, true, decide (y.cur ≠ x.cur), by omega, by go_num, by first | rfl | rw [beqd], by first | rfl | rw [beqd], by first | rfl | rw [bned], NX.out, D5.out⟩, by simp [intOf]; omega⟩
                · have e2 : (y.kind != x.kind) = true := by simpa using hkk
                  have NX : Hid (there (xs.take (k + 1)) x.id x.day = true ∧ dDt (xs.take (k + 1)) x = true ∧ dKd (xs.take (k + 1)) x = true) := by
                    have := HNX.out
                    have T := T1.out
                    show _ ∧ _
                    simpa [T, hkk] using this
                  go_wp2_with fail
                  exact ⟨⟨k + 1, true, true, true, by omega, by go_num, by first | rfl | rw [beqd], by first | rfl | rw [beqd], by first | rfl | rw [bned], NX.out, D5.out⟩, by simp [intOf]; omega⟩
              · have NX : Hid (there (xs.take (k + 1)) x.id x.day = true ∧ dDt (xs.take (k + 1)) x = true ∧ dKd (xs.take (k + 1)) x = true) := by
                  have := HNX.out
                  have T := T1.out
                  show _ ∧ _
                  simpa [T] using this
                go_wp2_with fail
                exact ⟨⟨k + 1, true, true, true, by omega, by go_num, by first | rfl | rw [beqd], by first | rfl | rw [beqd], by first | rfl | rw [bned], NX.out, D5.out⟩, by simp [intOf]; omega⟩
        · have e1 : (y.id == x.id) = false := by simpa using t1
          have NX : Hid (there (xs.take (k + 1)) x.id x.day = b1 ∧ dDt (xs.take (k + 1)) x = b2 ∧ dKd (xs.take (k + 1)) x = b3) := by
            have := HNX.out
            rw [decide_eq_false (fun h => t1 h.1), decide_eq_false (fun h => t1 h.1), decide_eq_false (fun h => t1 h.1), Bool.or_false, Bool.or_false, Bool.or_false] at this
            exact this
          go_wp2_with fail
          exact ⟨⟨k + 1, b1, b2, b3, by omega, by go_num, rfl, rfl, rfl, NX.out, D5.out⟩, by simp [intOf]; omega⟩
  · have HA : Hid (addE xs x = chk x) := by
      show addE xs x = chk x
      unfold addE
      rw [if_pos hc]
    have e1 : (chk x != 0) = true := by simpa using hc
    clear h hr hf hT hn hno
    go_enter Try.func18, Try.ntmps18
    go_wp2_with (refine ldA rfl 24 _ rfl w.heap.size (by rfl) _ _ HV.out _ Try.underlying24 rfl infoR ?_)
    refine (rcheck_ok x _ _ HTT.out).mono ?_
    rintro e w1 ⟨rfl, b1⟩
    go_wp2_with fail
    refine bodyPost_ret (v := .tuple #[.slice sa n sc, .int .i64 (chk x)]) (by simp [results, Try.results18, go_sem]) rfl ?_
    exact ⟨⟨_, by rw [HA.out], fun _ => rfl, fun h => absurd (HA.out.symm.trans h) hc⟩, HD.out.trans (b1.mono HD.out.size)⟩
end Go.Proofs.Ytgbphbeafomabaa
