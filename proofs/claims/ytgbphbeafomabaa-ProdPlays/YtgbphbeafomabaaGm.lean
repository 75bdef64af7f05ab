/- prod: may a version stand behind those that there are? -/
import Derived.Test.YtgbphbeafomabaaGl
namespace Go.Proofs.Ytgbphbeafomabaa
open Go.RowKit Go.Shelf
set_option linter.unusedVariables false

/-- all of an array or a struct is stored, as a region that draws its order meets it -/
theorem stO {w : World} {y : Nat → Option Bool} {o : Oper} {a : Act} {Q : Exit → Act → World → Prop} {K : Act → World → Prop} {k0 : Prop} (hgd : Region.wanted o y = true) (t : TypeId) (x z : Operand) (ho : o.op = .store t x z)
    (p : Nat) (hx : a.eval x = .pointer (some ⟨p, 0, none⟩)) (cs ds : List Value) (hy : a.eval z = .agg ds.toArray) (T : TypeId) (h : VA w p cs T) (hi : (Try.prog.info? t).map (·.size) = some ds.length) (hl : cs.length = ds.length) (h1 : ∀ v ∈ ds, v.oneCell' = true)
    (k : ∀ w', VA w' p ds T → Upd p w w' → K (a.put o.dst undef) w') : if Region.wanted o y then o.wp Try.prog a w K Q else k0 := by
  rw [if_pos hgd]
  have hrun := run_storeVar_row (P := Try.prog) w p T t cs.toArray ds.toArray h.blk (by simpa using hi) (by simpa using hl) (Array.all_eq_true_iff_forall_mem.2 (fun v hv => h1 v (by simpa using hv)))
  unfold Oper.wp execOp
  simp only [ho, hx, hy, Instr.storeAt, Instr.sureAddr, Sem.run_bind, Sem.run_pure, Result.andThen_ok, hrun]
  exact k _ ⟨setRow_heap w p _ _ _ _ h.blk⟩ (upd_setRow w p _)
/-- is there a version of this day? -/
def there (vs : List PV) (id day : Int) : Bool := vs.any fun x => decide (x.id = id ∧ x.day = day)
/-- may x stand behind vs? -/
def fol (vs : List PV) (x : PV) : Int :=
  if there vs x.id x.day then 8 else match hold vs x.id 3652059 with
    | none => 0
    | some l => if x.day < l.day then 9 else if l.kind ≠ x.kind ∨ l.cur ≠ x.cur then 11 else 0
theorem zeroP (w : World) : (zeroValue 25).run Try.prog w = .ok (.agg #[.int .i64 0, .int .i64 0, .int .i64 0, .int .i64 0, .int .i64 0, .int .i64 0, .int .i64 0, .int .i64 0, .slice none 0 0]) w := by kernel_rfl
set_option maxRecDepth 100000 in
set_option maxHeartbeats 4000000 in
theorem follows_ok {p B : Nat} {S : Nat → Prop} {vs : List PV} (x : PV) (tv : Value) (w : World) (h : Cat w p B S vs) (hx : x.wf) :
    Calls Try.prog 27 #[.pointer (some ⟨p, 0, none⟩), .agg (x.cells tv).toArray] w fun e w' => e = .returned (.int .i64 (fol vs x)) ∧ Below w.heap.size w w' := by
  have V := va_new w (x.cells tv) 25
  have HD := (show Hid _ from (Below.refl w.heap.size w).alloc (Nat.le_refl _) (.cells (x.cells tv).toArray 25))
  have HC := (show Hid _ from h.step HD.out)
  have hthere : ∀ f : Lit → Option Value, (∀ x ∈ vs, ∃ tv, f (kl x.id x.day) = some (.agg (x.cells tv).toArray) ∧ OwnT (w.alloc (.cells (x.cells tv).toArray 25)) B tv x.ts ∧ ∀ k, tv.ownBlock = some k → S k) → True := fun _ _ => trivial
  clear hthere
  obtain ⟨bm, sv, n, f, a1, a4, HTH, HFG⟩ : ∃ bm sv n f, VA (w.alloc (.cells (x.cells tv).toArray 25)) p [.map (some bm), sv] 65 ∧ MapF (w.alloc (.cells (x.cells tv).toArray 25)) 67 bm n f ∧ Hid ((f (kl x.id x.day)).isSome = there vs x.id x.day) ∧ Hid (∃ cs : List Value, cs.length = 9 ∧ (∀ v ∈ cs, v.oneCell' = true) ∧ (f (kl x.id x.day)).getD (.agg #[.int .i64 0, .int .i64 0, .int .i64 0, .int .i64 0, .int .i64 0, .int .i64 0, .int .i64 0, .int .i64 0, .slice none 0 0]) = .agg cs.toArray) := by
    obtain ⟨h1, h2, h3, bm, sv, n, f, a1, a2, a3, a4, a5, a6, a7, a8⟩ := HC.out
    refine ⟨bm, sv, n, f, a1, a4, ?_, ?_⟩
    · show (f (kl x.id x.day)).isSome = _
      by_cases hy : ∃ y ∈ vs, y.id = x.id ∧ y.day = x.day
      · have ht : there vs x.id x.day = true := by
          unfold there
          rw [List.any_eq_true]
          obtain ⟨y, hy, e⟩ := hy
          exact ⟨y, hy, by simpa using e⟩
        obtain ⟨y, hy, e1, e2⟩ := hy
        obtain ⟨tv, e3, _⟩ := a7 y hy
        rw [← e1, ← e2, e3, e1, e2, ht]
        rfl
      · have ht : there vs x.id x.day = false := by
          unfold there
          rw [List.any_eq_false]
          intro y hy' e
          exact hy ⟨y, hy', by simpa using e⟩
        rw [ht, a8 _ _ hx.id hx.day (fun y hy' e => hy ⟨y, hy', e⟩)]
        rfl
    · by_cases hy : ∃ y ∈ vs, y.id = x.id ∧ y.day = x.day
      · obtain ⟨y, hy, e1, e2⟩ := hy
        obtain ⟨tv, e3, e4, _⟩ := a7 y hy
        exact ⟨y.cells tv, rfl, pv_one y e4.form, by rw [← e1, ← e2, e3]; rfl⟩
      · exact ⟨[.int .i64 0, .int .i64 0, .int .i64 0, .int .i64 0, .int .i64 0, .int .i64 0, .int .i64 0, .int .i64 0, .slice none 0 0], rfl, zz_one, by rw [a8 _ _ hx.id hx.day (fun y hy' e => hy ⟨y, hy', e⟩)]; rfl⟩
  have ym := a1.cell 0 (v := .map (some bm)) rfl
  have y0 := V.cell 0 (v := .int .i64 x.id) rfl
  have y1 := V.cell 1 (v := .int .i64 x.kind) rfl
  have y2 := V.cell 2 (v := .int .i64 x.cur) rfl
  have y3 := V.cell 3 (v := .int .i64 x.day) rfl
  obtain ⟨cs, cs9, cs1, csv⟩ := HFG.out
  have HLK : Hid (∀ wq, Below (w.alloc (.cells (x.cells tv).toArray 25)).heap.size (w.alloc (.cells (x.cells tv).toArray 25)) wq → (Instr.lookup 62 (.map (some bm)) (.agg #[.int .i64 x.id, .int .i64 x.day]) true).run Try.prog wq = .ok (.tuple #[.agg cs.toArray, .bool (there vs x.id x.day)]) wq) := fun wq hS => by
    have := (a4.step hS).look_ok (t := 62) keyedP Try.underlying62 (zeroP wq) (kl_key hx.id hx.day)
    rw [csv, HTH.out] at this
    exact this
  clear HTH HFG csv
  have HVV := (show Hid _ from V)
  clear a1 a4 V h
  go_enter Try.func27, Try.ntmps27
  go_upto_region 1 with fail
  generalize w.alloc (.cells (x.cells tv).toArray 25) = w1 at *
  refine wp_region_noPanic ?_
  refine wp_region_held_drew (S := fun w' => Below w1.heap.size w1 w') (by kernel_rfl) ((Below.refl _ _).drew) (fun hHeld => ?_)
  refine wpAnyH_take (i := 0) (v := .pointer (some ⟨p, 0, none⟩)) (by exact rfl) (by kernel_rfl) (by kernel_rfl) (by kernel_rfl) (fun _ _ _ h => h) (Or.inl ⟨by rfl, ?_⟩) (by assumption) ?_
  · intro wq hS
    go_simp
  refine wpAnyH_take (i := 1) (v := .pointer (some ⟨p, 0, none⟩)) (by exact rfl) (by kernel_rfl) (by kernel_rfl) (by kernel_rfl) (fun _ _ _ h => h) (Or.inl ⟨by rfl, ?_⟩) (by assumption) ?_
  · intro wq hS
    go_simp
  refine wpAnyH_take (i := 2) (v := .pointer (some ⟨p, 0, none⟩)) (by exact rfl) (by kernel_rfl) (by kernel_rfl) (by kernel_rfl) (fun _ _ _ h => h) (Or.inl ⟨by rfl, ?_⟩) (by assumption) ?_
  · intro wq hS
    go_simp
  refine wpAnyH_take (i := 3) (v := .map (some bm)) (by exact rfl) (by kernel_rfl) (by kernel_rfl) (by kernel_rfl) (fun _ _ _ h => h) (Or.inl ⟨by rfl, ?_⟩) (by assumption) ?_
  · intro wq hS
    have c := (hS.cell (p := ⟨p, 0, none⟩) (World.block_lt_of_cell? _ _ ym)).trans ym
    go_simp
  refine wpAnyH_take (i := 4) (v := .pointer (some ⟨w.heap.size, 0, none⟩)) (by exact rfl) (by kernel_rfl) (by kernel_rfl) (by kernel_rfl) (fun _ _ _ h => h) (Or.inl ⟨by rfl, ?_⟩) (by assumption) ?_
  · intro wq hS
    go_simp
  refine wpAnyH_take (i := 5) (v := .int .i64 x.id) (by exact rfl) (by kernel_rfl) (by kernel_rfl) (by kernel_rfl) (fun _ _ _ h => h) (Or.inl ⟨by rfl, ?_⟩) (by assumption) ?_
  · intro wq hS
    have c := (hS.cell (p := ⟨w.heap.size, 0, none⟩) (World.block_lt_of_cell? _ _ y0)).trans y0
    go_simp
  refine wpAnyH_take (i := 6) (v := .pointer (some ⟨w.heap.size, 3, none⟩)) (by exact rfl) (by kernel_rfl) (by kernel_rfl) (by kernel_rfl) (fun _ _ _ h => h) (Or.inl ⟨by rfl, ?_⟩) (by assumption) ?_
  · intro wq hS
    go_simp
  refine wpAnyH_take (i := 7) (v := .int .i64 x.day) (by exact rfl) (by kernel_rfl) (by kernel_rfl) (by kernel_rfl) (fun _ _ _ h => h) (Or.inl ⟨by rfl, ?_⟩) (by assumption) ?_
  · intro wq hS
    have c := (hS.cell (p := ⟨w.heap.size, 3, none⟩) (World.block_lt_of_cell? _ _ y3)).trans y3
    go_simp
  refine wpAnyH_take (i := 8) (v := .agg #[.int .i64 x.id, .int .i64 x.day]) (by exact rfl) (by kernel_rfl) (by kernel_rfl) (by kernel_rfl) (fun _ _ _ h => h) (Or.inl ⟨by rfl, ?_⟩) (by assumption) ?_
  · intro wq hS
    go_simp
  refine wpAnyH_take (i := 9) (v := .tuple #[.agg cs.toArray, .bool (there vs x.id x.day)]) (by exact rfl) (by kernel_rfl) (by kernel_rfl) (by kernel_rfl) (fun _ _ _ h => h) (Or.inl ⟨by rfl, ?_⟩) (by assumption) ?_
  · intro wq hS
    have hl := HLK.out wq hS
    go_simp
  refine wpAnyH_take (i := 10) (v := .tuple #[.agg cs.toArray, .bool (there vs x.id x.day)]) (by exact rfl) (by kernel_rfl) (by kernel_rfl) (by kernel_rfl) (fun _ _ _ h => h) (Or.inl ⟨by rfl, ?_⟩) (by assumption) ?_
  · intro wq hS
    go_simp
  refine wpAnyH_take (i := 11) (v := .agg cs.toArray) (by exact rfl) (by kernel_rfl) (by kernel_rfl) (by kernel_rfl) (fun _ _ _ h => h) (Or.inl ⟨by rfl, ?_⟩) (by assumption) ?_
  · intro wq hS
    go_simp
  refine wpAnyH_take (i := 12) (v := .bool (there vs x.id x.day)) (by exact rfl) (by kernel_rfl) (by kernel_rfl) (by kernel_rfl) (fun _ _ _ h => h) (Or.inl ⟨by rfl, ?_⟩) (by assumption) ?_
  · intro wq hS
    go_simp
  refine wpAnyH_ready (rs := [13]) (by kernel_rfl) (by simp) ?_
  refine AllReadyH.cons (by exact rfl) (fun K hK => ?_) AllReadyH.nil
  go_simp
  have l1 := HVV.out.lt
  have BA := ((Below.refl w1.heap.size w1).drew).alloc (Nat.le_refl _) (.cells #[.int .i64 0, .int .i64 0, .int .i64 0, .int .i64 0, .int .i64 0, .int .i64 0, .int .i64 0, .int .i64 0, .slice none 0 0] 25)
  refine hK.out _ _ BA (fun hHeld => ?_)
  clear hK K
  refine wpAnyH_ready (rs := [14]) (by kernel_rfl) (by simp) ?_
  refine AllReadyH.cons (by exact rfl) (fun K hK => ?_) AllReadyH.nil
  refine stO (by rfl) 25 _ _ (by rfl) w1.heap.size (by rfl) _ cs (by rfl) 25 (va_new w1.drew [.int .i64 0, .int .i64 0, .int .i64 0, .int .i64 0, .int .i64 0, .int .i64 0, .int .i64 0, .int .i64 0, .slice none 0 0] 25) (infoP.trans (by rw [cs9])) (by rw [cs9]; rfl) cs1 ?_
  intro w2 V2 U2
  have B2 : Below w1.heap.size w1 w2 := U2.bel BA (Nat.le_refl _)
  refine hK.out _ _ B2 (fun hHeld => ?_)
  clear hK K
  refine wpAnyH_ready (rs := [15]) (by kernel_rfl) (by simp) ?_
  refine AllReadyH.cons (by exact rfl) (fun K hK => ?_) AllReadyH.nil
  go_simp
  refine hK.out _ _ B2 (fun hHeld => ?_)
  clear hK K
  refine wpAnyH_done (by kernel_rfl) ?_ _
  refine NoPanic.normal ?_
  have D2 := (show Hid _ from HD.out.trans (B2.mono HD.out.size))
  have C2 := (show Hid _ from HC.out.step B2)
  have VV2 := (show Hid _ from HVV.out.step B2)
  have z0 := VV2.out.cell 0 (v := .int .i64 x.id) rfl
  have z1 := VV2.out.cell 1 (v := .int .i64 x.kind) rfl
  have z2 := VV2.out.cell 2 (v := .int .i64 x.cur) rfl
  have z3 := VV2.out.cell 3 (v := .int .i64 x.day) rfl
  clear y0 y1 y2 y3 ym HLK V2 U2 BA B2 HC HVV
  cases hth : there vs x.id x.day
  · go_wp2_with fail
    refine (holding_cat x.id 3652059 w2 C2.out).mono ?_
    rintro e w3 ⟨ha, b3⟩
    have V3 := VV2.out.step b3
    have D3 := (show Hid _ from D2.out.trans (b3.mono D2.out.size))
    have hl3 := b3.size
    have hv2 := VV2.out.lt
    rcases ha with ⟨hn, rfl⟩ | ⟨l, lv, hm, hl, rfl, o3, hS⟩
    · clear z0 z1 z2 z3 V3
      have HF : Hid (fol vs x = 0) := by show fol vs x = 0; unfold fol; rw [hth, hn]; rfl
      go_wp2_with (refine stA rfl 25 _ _ rfl w3.heap.size (by rfl) _ [.int .i64 0, .int .i64 0, .int .i64 0, .int .i64 0, .int .i64 0, .int .i64 0, .int .i64 0, .int .i64 0, .slice none 0 0] (by rfl) 25 (va_new w3 [.int .i64 0, .int .i64 0, .int .i64 0, .int .i64 0, .int .i64 0, .int .i64 0, .int .i64 0, .int .i64 0, .slice none 0 0] 25) infoP rfl zz_one ?_; intro w4 V4 U4)
      go_ret
      exact ⟨by rw [HF.out]; rfl, U4.bel (D3.out.alloc D3.out.size _) D3.out.size⟩
    · obtain ⟨la, ln, lc, rfl⟩ := o3.form
      have HL := (show Hid _ from hl)
      have V4' := (show Hid _ from V3.alloc (.cells #[.int .i64 0, .int .i64 0, .int .i64 0, .int .i64 0, .int .i64 0, .int .i64 0, .int .i64 0, .int .i64 0, .slice none 0 0] 25))
      clear z0 z1 z2 z3 hl o3 hS hm V3 b3
      go_upto_region 5 with (refine stA rfl 25 _ _ rfl w3.heap.size (by rfl) _ (l.cells (.slice la ln lc)) (by rfl) 25 (va_new w3 [.int .i64 0, .int .i64 0, .int .i64 0, .int .i64 0, .int .i64 0, .int .i64 0, .int .i64 0, .int .i64 0, .slice none 0 0] 25) infoP rfl (pv_one l ⟨_, _, _, rfl⟩) ?_; intro w4 V4 U4)
      have X4 := V4'.out.upd U4 (by omega)
      have D4 := (show Hid _ from U4.bel (D3.out.alloc D3.out.size (.cells #[.int .i64 0, .int .i64 0, .int .i64 0, .int .i64 0, .int .i64 0, .int .i64 0, .int .i64 0, .int .i64 0, .slice none 0 0] 25)) D3.out.size)
      have z1 := X4.cell 1 (v := .int .i64 x.kind) rfl
      have z2 := X4.cell 2 (v := .int .i64 x.cur) rfl
      have z3 := X4.cell 3 (v := .int .i64 x.day) rfl
      have l1' := V4.cell 1 (v := .int .i64 l.kind) rfl
      have l2' := V4.cell 2 (v := .int .i64 l.cur) rfl
      have l3' := V4.cell 3 (v := .int .i64 l.day) rfl
      have HF : Hid (fol vs x = if x.day < l.day then 9 else if l.kind ≠ x.kind ∨ l.cur ≠ x.cur then 11 else 0) := by show fol vs x = _; unfold fol; rw [hth, HL.out]; rfl
      clear X4 V4 U4
      by_cases t1 : x.day < l.day
      · go_wp2_with fail
        go_ret
        exact ⟨by rw [HF.out, if_pos t1]; rfl, D4.out⟩
      · have t1' : ¬ x.day < l.day := t1
        have T1 := (show Hid _ from t1')
        by_cases t2 : l.kind = x.kind
        · have e2 : (l.kind != x.kind) = false := by simpa using t2
          have T2 := (show Hid _ from t2)
          clear t2
          by_cases t3 : l.cur = x.cur
          · have e3 : (l.cur != x.cur) = false := by simpa using t3
            have T3 := (show Hid _ from t3)
            clear t3
            go_wp2_with fail
            go_ret
            exact ⟨by rw [HF.out, if_neg T1.out, if_neg (fun h => h.elim (fun h => h T2.out) (fun h => h T3.out))]; rfl, D4.out⟩
          · have e3 : (l.cur != x.cur) = true := by simpa using t3
            go_wp2_with fail
            go_ret
            exact ⟨by rw [HF.out, if_neg T1.out, if_pos (Or.inr t3)]; rfl, D4.out⟩
        · have e2 : (l.kind != x.kind) = true := by simpa using t2
          go_wp2_with fail
          go_ret
          exact ⟨by rw [HF.out, if_neg T1.out, if_pos (Or.inl t2)]; rfl, D4.out⟩
  · go_wp2_with fail
    go_ret
    exact ⟨by unfold fol; rw [hth]; rfl, D2.out⟩
end Go.Proofs.Ytgbphbeafomabaa
