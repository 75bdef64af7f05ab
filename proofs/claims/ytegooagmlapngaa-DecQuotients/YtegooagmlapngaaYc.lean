/- The document's decimals: the contract of DocQuo. -/
import Derived.Test.YtegooagmlapngaaIa
import Derived.Test.YtegooagmlapngaaUz
import Derived.Test.YtegooagmlapngaaGy
import Derived.Deep.DeepCutAuto
namespace Go.Proofs.Ytegooagmlapngaa
open Go.RowKit
set_option linter.unusedVariables false

theorem infoW : (Try.prog.info? 46).map (·.size) = some 2 := by kernel_rfl
theorem infoD : (Try.prog.info? 24).map (·.size) = some 3 := by kernel_rfl
theorem il_one (m : Bool) (a : Option Addr) (n c : Nat) : ∀ v ∈ [Value.bool m, .slice a n c], v.oneCell' = true := by intro v hv; simp at hv; rcases hv with rfl | rfl <;> rfl
theorem dl_one (a b c : Int) : ∀ v ∈ [Value.int .i64 a, .int .u64 b, .int .i64 c], v.oneCell' = true := by intro v hv; simp at hv; rcases hv with rfl | rfl | rfl <;> rfl
theorem cell_upd {w w' : World} {p q j : Nat} (k : Upd p w w') (h : q ≠ p) : w'.cell? ⟨q, j, none⟩ = w.cell? ⟨q, j, none⟩ := World.cell?_of_block (w := w) (w' := w') (a := ⟨q, j, none⟩) (k.block q h)
theorem Nm.upd {w w' : World} {v : Value} {x p : Nat} {cs : List Value} {T : TypeId} (h : Nm w v x) (k : Upd p w w') (hp : VA w p cs T) (hT : T ≠ 22) : Nm w' v x := by
  obtain ⟨ds, ⟨s, a, c, e, hc, f⟩, n, ev⟩ := h
  refine ⟨ds, ⟨s, a, c, e, hc, fun h0 => ?_⟩, n, ev⟩
  obtain ⟨b, off, ea, ⟨hb, cur', fr', hk⟩, hx⟩ := f h0
  have hne : b ≠ p := by
    intro e
    subst e
    rw [hp.blk] at hk
    simp at hk
    exact hT hk.2.1
  exact ⟨b, off, ea, ⟨by rw [k.size]; exact hb, cur', fr', by rw [k.block b hne]; exact hk⟩, fun j hj => (cell_upd k hne).trans (hx j hj)⟩
theorem In.upd {w w' : World} {v : Value} {z : Int} {p : Nat} {cs : List Value} {T : TypeId} (h : In w v z) (k : Upd p w w') (hp : VA w p cs T) (hT : T ≠ 22) : In w' v z := by
  obtain ⟨m, ⟨s, e, hn⟩, a, b⟩ := h
  exact ⟨m, ⟨s, e, hn.upd k hp hT⟩, a, b⟩
/-- all of a struct is stored, in a drawn region; the frame stays -/
theorem stAn {w : World} {y : Nat → Option Bool} {o : Oper} {a : Act} {Q : Exit → Act → World → Prop} {K : Act → World → Prop} {k0 : Prop} (hgd : Region.wanted o y = true) (hd : o.dst = none) (t : TypeId) (x z : Operand) (ho : o.op = .store t x z)
    (p : Nat) (hx : a.eval x = .pointer (some ⟨p, 0, none⟩)) (cs ds : List Value) (hy : a.eval z = .agg ds.toArray) (T : TypeId) (h : VA w p cs T) (hi : (Try.prog.info? t).map (·.size) = some ds.length) (hl : cs.length = ds.length) (h1 : ∀ v ∈ ds, v.oneCell' = true)
    (k : ∀ w', VA w' p ds T → Upd p w w' → K a w') : if Region.wanted o y = true then o.wp Try.prog a w K Q else k0 := by
  rw [if_pos hgd]
  have hrun := run_storeVar_row (P := Try.prog) w p T t cs.toArray ds.toArray h.blk (by simpa using hi) (by simpa using hl) (Array.all_eq_true_iff_forall_mem.2 (fun v hv => h1 v (by simpa using hv)))
  unfold Oper.wp execOp
  simp only [ho, hx, hy, Instr.storeAt, Instr.sureAddr, Sem.run_bind, Sem.run_pure, Result.andThen_ok, hrun]
  show K (a.put o.dst undef) _
  rw [hd]
  exact k _ ⟨setRow_heap w p _ _ _ _ h.blk⟩ (upd_setRow w p _)
/-- all of a struct is loaded, under a guard that holds -/
theorem ldAg {w : World} {ops : Array Oper} {rest : List Oper} {o : Oper} {a : Act} {Q : Exit → Act → World → Prop} (hgd : Region.wanted o (yielded ops a.tmps) = true) (t : TypeId) (x : Operand) (ho : o.op = .load t x)
    (p : Nat) (hx : a.eval x = .pointer (some ⟨p, 0, none⟩)) (cs : List Value) (T : TypeId) (h : VA w p cs T) (d : TypeDesc) (hu : Try.prog.underlying t = some d) (hd : d.isRow = true) (hi : (Try.prog.info? t).map (·.size) = some cs.length)
    (k : wpList Try.prog ops Q rest (a.put o.dst (.agg cs.toArray)) w) : wpList Try.prog ops Q (o :: rest) a w := by
  refine wpList_step fun K hK => ?_
  rw [if_pos hgd]
  exact wp_load_mid t x ho p 0 hx cs d (fun j v hv => by rw [Nat.zero_add]; exact h.cell j hv) hu hd hi (hK _ _ k)
theorem wrapI (n : Int) (h : -9223372036854775808 ≤ n ∧ n ≤ 9223372036854775807) : IntKind.i64.wrap n = n := by
  simp [IntKind.wrap, IntKind.signed, IntKind.bits]
  omega
theorem sdec {w : World} {p : Nat} {a b c d e f : Value} {T : TypeId} (hA : VA w p [a, b, c] T) (hB : VA w (p + 1) [d, e, f] T) : (w.cell? ⟨p, 0, none⟩ = some a ∧ w.cell? ⟨p, 1, none⟩ = some b ∧ w.cell? ⟨p, 2, none⟩ = some c ∧ p < w.heap.size) ∧ w.cell? ⟨p + 1, 0, none⟩ = some d ∧ w.cell? ⟨p + 1, 1, none⟩ = some e ∧ w.cell? ⟨p + 1, 2, none⟩ = some f ∧ p + 1 < w.heap.size :=
  ⟨⟨hA.cell 0 rfl, hA.cell 1 rfl, hA.cell 2 rfl, hA.lt⟩, hB.cell 0 rfl, hB.cell 1 rfl, hB.cell 2 rfl, hB.lt⟩
theorem seight {w : World} {x y p : Nat} {a b c d e f g : Value} {T U : TypeId} (hx : VA w x [a, b] T) (hy : VA w y [c, d] T) (hB : VA w (p + 1) [e, f, g] U) : (w.cell? ⟨x, 0, none⟩ = some a ∧ w.cell? ⟨x, 1, none⟩ = some b ∧ x < w.heap.size) ∧ (w.cell? ⟨y, 0, none⟩ = some c ∧ w.cell? ⟨y, 1, none⟩ = some d ∧ y < w.heap.size) ∧ w.cell? ⟨p + 1, 2, none⟩ = some g ∧ p + 1 < w.heap.size :=
  ⟨⟨hx.cell 0 rfl, hx.cell 1 rfl, hx.lt⟩, ⟨hy.cell 0 rfl, hy.cell 1 rfl, hy.lt⟩, hB.cell 2 rfl, hB.lt⟩
theorem snine {w : World} {x y p : Nat} {a b c d e f g : Value} {T U : TypeId} (hx : VA w x [a, b] T) (hy : VA w y [c, d] T) (hA : VA w p [e, f, g] U) : (w.cell? ⟨x, 0, none⟩ = some a ∧ w.cell? ⟨x, 1, none⟩ = some b ∧ x < w.heap.size) ∧ (w.cell? ⟨y, 0, none⟩ = some c ∧ w.cell? ⟨y, 1, none⟩ = some d ∧ y < w.heap.size) ∧ w.cell? ⟨p, 2, none⟩ = some g ∧ p < w.heap.size :=
  ⟨⟨hx.cell 0 rfl, hx.cell 1 rfl, hx.lt⟩, ⟨hy.cell 0 rfl, hy.cell 1 rfl, hy.lt⟩, hA.cell 2 rfl, hA.lt⟩
theorem not_in {z : Int} (h : ¬ InR z) : M127 ≤ (z.natAbs : Int) := by
  apply Classical.byContradiction
  intro c
  exact h (inr_of (by omega))
set_option maxHeartbeats 20000000 in
set_option maxRecDepth 100000 in
theorem xquo_any (ca cb : Int) (sa sb t mode : Nat) (w : World) (ia : InR ca) (ib : InR cb) (hsa : (sa : Int) ≤ 18) (hsb : (sb : Int) ≤ 18) (ht : (t : Int) ≤ 18) (hm : (mode : Int) ≤ 6) :
    Calls Try.prog 5 #[.agg #[.int .i64 (dhi ca), .int .u64 (dlo ca), .int .i64 sa], .agg #[.int .i64 (dhi cb), .int .u64 (dlo cb), .int .i64 sb], .int .i64 t, .int .i64 mode] w
      fun e w' => (cb = 0 ∧ e = .returned (.tuple #[.agg #[.int .i64 0, .int .u64 0, .int .i64 0], .int .i64 5]) ∨ ¬ cb = 0 ∧ InR (qv ca sa cb sb t mode) ∧ e = .returned (.tuple #[.agg #[.int .i64 (dhi (qv ca sa cb sb t mode)), .int .u64 (dlo (qv ca sa cb sb t mode)), .int .i64 t], .int .i64 0]) ∨ ¬ cb = 0 ∧ ¬ InR (qv ca sa cb sb t mode) ∧ e = .returned (.tuple #[.agg #[.int .i64 0, .int .u64 0, .int .i64 0], .int .i64 4])) ∧ Below w.heap.size w w' := by
  have IA : Hid (InR ca) := ia
  have IB : Hid (InR cb) := ib
  have A0 := ((va_new w [.int .i64 (dhi ca), .int .u64 (dlo ca), .int .i64 sa] 24).alloc (.cells #[.int .i64 (dhi cb), .int .u64 (dlo cb), .int .i64 sb] 24)).alloc (.cells #[.int .i64 0, .int .u64 0, .int .i64 0] 24)
  have B0 := (va_new (w.alloc (.cells #[.int .i64 (dhi ca), .int .u64 (dlo ca), .int .i64 sa] 24)) [.int .i64 (dhi cb), .int .u64 (dlo cb), .int .i64 sb] 24).alloc (.cells #[.int .i64 0, .int .u64 0, .int .i64 0] 24)
  rw [World.size_alloc] at B0
  have R0 := va_new ((w.alloc (.cells #[.int .i64 (dhi ca), .int .u64 (dlo ca), .int .i64 sa] 24)).alloc (.cells #[.int .i64 (dhi cb), .int .u64 (dlo cb), .int .i64 sb] 24)) [.int .i64 0, .int .u64 0, .int .i64 0] 24
  rw [World.size_alloc, World.size_alloc] at R0
  have H0 := (((Below.refl w.heap.size w).alloc (Nat.le_refl _) (.cells #[.int .i64 (dhi ca), .int .u64 (dlo ca), .int .i64 sa] 24)).alloc (by simp) (.cells #[.int .i64 (dhi cb), .int .u64 (dlo cb), .int .i64 sb] 24)).alloc (by simp; omega) (.cells #[.int .i64 0, .int .u64 0, .int .i64 0] 24)
  have A := (show Hid _ from A0)
  have B := (show Hid _ from B0)
  have R := (show Hid _ from R0)
  have hW := (show Hid _ from H0)
  clear A0 B0 R0 H0
  go_enter Try.func5, Try.ntmps5
  go_wp2_with fail
  refine (way_yes t mode _ (by omega) ht hm).mono ?_
  rintro e w1 ⟨rfl, hw⟩
  obtain rfl := hw.symm
  go_wp2_with (refine ldA rfl 24 _ rfl w.heap.size (by rfl) _ _ A.out _ Try.underlying24 rfl infoD ?_)
  refine (form_yes ca sa _ IA.out hsa).mono ?_
  rintro e V ⟨rfl, hb⟩
  have A1 := (show Hid _ from A.out.step hb)
  have B1 := (show Hid _ from B.out.step hb)
  have R1 := (show Hid _ from R.out.step hb)
  have hW1 := (show Hid _ from hW.out.trans (hb.mono hW.out.size))
  clear hb A B R hW
  obtain ⟨p, hp⟩ : ∃ p, p = w.heap.size := ⟨_, rfl⟩
  have HP : Hid (p = w.heap.size) := hp
  rw [← hp] at A1 B1 R1
  rw [← hp]
  clear hp
  go_wp2_with (refine ldAg (by rfl) 24 _ rfl (p + 1) (by rfl) _ _ B1.out _ Try.underlying24 rfl infoD ?_)
  refine (form_yes cb sb _ IB.out hsb).mono ?_
  rintro e W ⟨rfl, hb⟩
  have A := (show Hid _ from A1.out.step hb)
  have B := (show Hid _ from B1.out.step hb)
  have R := (show Hid _ from R1.out.step hb)
  have hW := (show Hid _ from hW1.out.trans (hb.mono hW1.out.size))
  clear hb A1 B1 R1 hW1
  go_upto_region 5 with fail
  go_cut [10, 11] (fun xp yp wx => ∃ (xx yy : Nat) (mx : Bool) (ax : Option Addr) (nx kx : Nat) (my : Bool) (ay : Option Addr) (ny ky : Nat), xp = .pointer (some ⟨xx, 0, none⟩) ∧ yp = .pointer (some ⟨yy, 0, none⟩) ∧ Hid (VA wx xx [.bool mx, .slice ax nx kx] 46) ∧ Hid (In wx (.agg #[.bool mx, .slice ax nx kx]) ca) ∧ Hid (VA wx yy [.bool my, .slice ay ny ky] 46) ∧ Hid (In wx (.agg #[.bool my, .slice ay ny ky]) cb) ∧ Hid (VA wx p [.int .i64 (dhi ca), .int .u64 (dlo ca), .int .i64 sa] 24) ∧ Hid (VA wx (p + 1) [.int .i64 (dhi cb), .int .u64 (dlo cb), .int .i64 sb] 24) ∧ Hid (VA wx (p + 1 + 1) [.int .i64 0, .int .u64 0, .int .i64 0] 24) ∧ Hid (Below w.heap.size w wx) ∧ Hid (p + 1 + 1 < xx ∧ p + 1 + 1 < yy))
  case first =>
    refine wp_region_noPanic ?_
    refine wp_region_held_drew (S := fun w' => (w'.cell? ⟨p, 0, none⟩ = some (.int .i64 (dhi ca)) ∧ w'.cell? ⟨p, 1, none⟩ = some (.int .u64 (dlo ca)) ∧ w'.cell? ⟨p, 2, none⟩ = some (.int .i64 sa) ∧ p < w'.heap.size) ∧ w'.cell? ⟨p + 1, 0, none⟩ = some (.int .i64 (dhi cb)) ∧ w'.cell? ⟨p + 1, 1, none⟩ = some (.int .u64 (dlo cb)) ∧ w'.cell? ⟨p + 1, 2, none⟩ = some (.int .i64 sb) ∧ p + 1 < w'.heap.size) (by kernel_rfl) (sdec A.out.drew B.out.drew) (fun hHeld => ?_)
    refine takeD 0 27 (.agg #[.int .i64 (dhi ca), .int .u64 (dlo ca), .int .i64 sa]) (by exact rfl) rfl (by kernel_rfl) (by kernel_rfl) (by kernel_rfl) (fun _ _ _ h => h) (Or.inl ⟨by rfl, ?_⟩) (by assumption) ?_
    · intro wq hS
      obtain ⟨⟨h1, h2, h3, h4⟩, h5, h6, h7, h8⟩ := hS
      go_simp
    try simp only [Act.put, List.setIfInBounds_toArray, List.set_cons_zero, List.set_cons_succ]
    refine takeD 2 29 (.agg #[.int .i64 (dhi cb), .int .u64 (dlo cb), .int .i64 sb]) (by exact rfl) rfl (by kernel_rfl) (by kernel_rfl) (by kernel_rfl) (fun _ _ _ h => h) (Or.inl ⟨by rfl, ?_⟩) (by assumption) ?_
    · intro wq hS
      obtain ⟨⟨h1, h2, h3, h4⟩, h5, h6, h7, h8⟩ := hS
      go_simp
    try simp only [Act.put, List.setIfInBounds_toArray, List.set_cons_zero, List.set_cons_succ]
    clear hHeld
    have VA_x := (show Hid _ from A.out.drew)
    have VB_x := (show Hid _ from B.out.drew)
    have VR_x := (show Hid _ from R.out.drew)
    have BB_x := (show Hid _ from hW.out.drew)
    have LL_x : Hid (p + 1 + 1 < W.drew.heap.size) := R.out.drew.lt
    have SS_x := (show Hid _ from sdec VA_x.out VB_x.out)
    clear A B R hW
    generalize W.drew = wx at *
    refine wpAnyH_ready (rs := [1, 4, 5]) (by kernel_rfl) (by simp) ?_
    refine AllReadyH.cons (by exact rfl) (fun K hK => ?_) (AllReadyH.cons (by exact rfl) (fun K hK => ?_) (AllReadyH.cons (by exact rfl) (fun K hK => ?_) AllReadyH.nil))
    · go_simp
      refine (coef_ok ca sa _ IA.out).mono ?_
      rintro e wc1 ⟨⟨rx, rfl, ic1⟩, bc1⟩
      have VA_c1 := (show Hid _ from VA_x.out.step bc1)
      have VB_c1 := (show Hid _ from VB_x.out.step bc1)
      have VR_c1 := (show Hid _ from VR_x.out.step bc1)
      have BB_c1 := (show Hid _ from BB_x.out.trans (bc1.mono BB_x.out.size))
      have LL_c1 := (show Hid _ from Nat.le_trans LL_x.out bc1.size)
      have JX_c1 := (show Hid _ from ic1)
      have SS_c1 := (show Hid _ from sdec VA_c1.out VB_c1.out)
      clear bc1 ic1
      go_wp2_with fail
      refine hK.out _ _ SS_c1.out (fun hHeld => ?_)
      try simp only [Act.put, List.setIfInBounds_toArray, List.set_cons_zero, List.set_cons_succ]
      clear hK K hHeld
      refine wpAnyH_ready (rs := [3, 4, 5]) (by kernel_rfl) (by simp) ?_
      refine AllReadyH.cons (by exact rfl) (fun K hK => ?_) (AllReadyH.cons (by exact rfl) (fun K hK => ?_) (AllReadyH.cons (by exact rfl) (fun K hK => ?_) AllReadyH.nil))
      · go_simp
        refine (coef_ok cb sb _ IB.out).mono ?_
        rintro e wc2 ⟨⟨ry, rfl, ic2⟩, bc2⟩
        have VA_c2 := (show Hid _ from VA_c1.out.step bc2)
        have VB_c2 := (show Hid _ from VB_c1.out.step bc2)
        have VR_c2 := (show Hid _ from VR_c1.out.step bc2)
        have JX_c2 := (show Hid _ from JX_c1.out.step bc2)
        have BB_c2 := (show Hid _ from BB_c1.out.trans (bc2.mono BB_c1.out.size))
        have LL_c2 := (show Hid _ from Nat.le_trans LL_c1.out bc2.size)
        have JY_c2 := (show Hid _ from ic2)
        have SS_c2 := (show Hid _ from sdec VA_c2.out VB_c2.out)
        clear bc2 ic2
        go_wp2_with fail
        refine hK.out _ _ SS_c2.out (fun hHeld => ?_)
        try simp only [Act.put, List.setIfInBounds_toArray, List.set_cons_zero, List.set_cons_succ]
        clear hK K hHeld
        refine wpAnyH_ready (rs := [4, 5]) (by kernel_rfl) (by simp) ?_
        refine AllReadyH.cons (by exact rfl) (fun K hK => ?_) (AllReadyH.cons (by exact rfl) (fun K hK => ?_) AllReadyH.nil)
        · go_simp
          have VA_c3 := (show Hid _ from VA_c2.out.alloc (.cells ([.bool false, .slice none 0 0] : List Value).toArray 46))
          have VB_c3 := (show Hid _ from VB_c2.out.alloc (.cells ([.bool false, .slice none 0 0] : List Value).toArray 46))
          have VR_c3 := (show Hid _ from VR_c2.out.alloc (.cells ([.bool false, .slice none 0 0] : List Value).toArray 46))
          have JX_c3 := (show Hid _ from JX_c2.out.alloc (.cells ([.bool false, .slice none 0 0] : List Value).toArray 46))
          have JY_c3 := (show Hid _ from JY_c2.out.alloc (.cells ([.bool false, .slice none 0 0] : List Value).toArray 46))
          have BB_c3 := (show Hid _ from BB_c2.out.alloc BB_c2.out.size (.cells ([.bool false, .slice none 0 0] : List Value).toArray 46))
          have LL_c3 := (show Hid _ from Nat.le_trans LL_c2.out (by simp : wc2.heap.size ≤ (wc2.alloc (.cells ([.bool false, .slice none 0 0] : List Value).toArray 46)).heap.size))
          have XV_c3 := (show Hid _ from va_new wc2 [.bool false, .slice none 0 0] 46)
          have NXV : Hid (p + 1 + 1 < wc2.heap.size) := LL_c2.out
          have SS_c3 := (show Hid _ from sdec VA_c3.out VB_c3.out)
          refine hK.out _ _ SS_c3.out (fun hHeld => ?_)
          try simp only [Act.put, List.setIfInBounds_toArray, List.set_cons_zero, List.set_cons_succ]
          clear hK K hHeld
          change wpAnyH _ _ _ _ _ _ _ _ (wc2.alloc (.cells ([.bool false, .slice none 0 0] : List Value).toArray 46))
          generalize wc2.alloc (.cells ([.bool false, .slice none 0 0] : List Value).toArray 46) = wc3 at *
          generalize wc2.heap.size = xx at *
          refine wpAnyH_ready (rs := [5]) (by kernel_rfl) (by simp) ?_
          refine AllReadyH.cons (by exact rfl) (fun K hK => ?_) AllReadyH.nil
          go_simp
          have VA_c4 := (show Hid _ from VA_c3.out.alloc (.cells ([.bool false, .slice none 0 0] : List Value).toArray 46))
          have VB_c4 := (show Hid _ from VB_c3.out.alloc (.cells ([.bool false, .slice none 0 0] : List Value).toArray 46))
          have VR_c4 := (show Hid _ from VR_c3.out.alloc (.cells ([.bool false, .slice none 0 0] : List Value).toArray 46))
          have JX_c4 := (show Hid _ from JX_c3.out.alloc (.cells ([.bool false, .slice none 0 0] : List Value).toArray 46))
          have JY_c4 := (show Hid _ from JY_c3.out.alloc (.cells ([.bool false, .slice none 0 0] : List Value).toArray 46))
          have XV_c4 := (show Hid _ from XV_c3.out.alloc (.cells ([.bool false, .slice none 0 0] : List Value).toArray 46))
          have BB_c4 := (show Hid _ from BB_c3.out.alloc BB_c3.out.size (.cells ([.bool false, .slice none 0 0] : List Value).toArray 46))
          have LL_c4 := (show Hid _ from Nat.le_trans LL_c3.out (by simp : wc3.heap.size ≤ (wc3.alloc (.cells ([.bool false, .slice none 0 0] : List Value).toArray 46)).heap.size))
          have YV_c4 := (show Hid _ from va_new wc3 [.bool false, .slice none 0 0] 46)
          have NYV : Hid (p + 1 + 1 < wc3.heap.size) := LL_c3.out
          have EXVYV : Hid (xx < wc3.heap.size) := XV_c3.out.lt
          have SS_c4 := (show Hid _ from sdec VA_c4.out VB_c4.out)
          refine hK.out _ _ SS_c4.out (fun hHeld => ?_)
          try simp only [Act.put, List.setIfInBounds_toArray, List.set_cons_zero, List.set_cons_succ]
          clear hK K hHeld
          change wpAnyH _ _ _ _ _ _ _ _ (wc3.alloc (.cells ([.bool false, .slice none 0 0] : List Value).toArray 46))
          generalize wc3.alloc (.cells ([.bool false, .slice none 0 0] : List Value).toArray 46) = wc4 at *
          generalize wc3.heap.size = yy at *
          have HXY : Hid (xx ≠ yy) := (by have := EXVYV.out; omega : xx ≠ yy)
          obtain ⟨mx, ax, nx, kx, rfl, _⟩ := JX_c4.out.form
          obtain ⟨my, ay, ny, ky, rfl, _⟩ := JY_c4.out.form
          refine wpAnyH_ready (rs := [6]) (by kernel_rfl) (by simp) ?_
          refine AllReadyH.cons (by exact rfl) (fun K hK => ?_) AllReadyH.nil
          refine stAn (by rfl) (by rfl) 46 _ _ (by rfl) xx (by rfl) [.bool false, .slice none 0 0] [.bool mx, .slice ax nx kx] (by rfl) 46 XV_c4.out infoW rfl (il_one _ _ _ _) ?_
          intro w8 v8 u8
          have XV8 := (show Hid _ from v8)
          have YV8 := (show Hid _ from YV_c4.out.upd u8 (by have := HXY.out; omega))
          have JX8 := (show Hid _ from JX_c4.out.upd u8 XV_c4.out (by decide))
          have JY8 := (show Hid _ from JY_c4.out.upd u8 XV_c4.out (by decide))
          have VA8 := (show Hid _ from VA_c4.out.upd u8 (by have := NXV.out; omega))
          have VB8 := (show Hid _ from VB_c4.out.upd u8 (by have := NXV.out; omega))
          have VR8 := (show Hid _ from VR_c4.out.upd u8 (by have := NXV.out; omega))
          have BB8 := (show Hid _ from u8.bel BB_c4.out (by have := NXV.out; have := HP.out; omega))
          have SS8 := (show Hid _ from sdec VA8.out VB8.out)
          clear v8 u8
          refine hK.out _ _ SS8.out (fun hHeld => ?_)
          clear hK K hHeld
          refine wpAnyH_ready (rs := [7]) (by kernel_rfl) (by simp) ?_
          refine AllReadyH.cons (by exact rfl) (fun K hK => ?_) AllReadyH.nil
          refine stAn (by rfl) (by rfl) 46 _ _ (by rfl) yy (by rfl) [.bool false, .slice none 0 0] [.bool my, .slice ay ny ky] (by rfl) 46 YV8.out infoW rfl (il_one _ _ _ _) ?_
          intro w9 v9 u9
          have XV9 := (show Hid _ from XV8.out.upd u9 (by have := HXY.out; omega))
          have YV9 := (show Hid _ from v9)
          have JX9 := (show Hid _ from JX8.out.upd u9 YV8.out (by decide))
          have JY9 := (show Hid _ from JY8.out.upd u9 YV8.out (by decide))
          have VA9 := (show Hid _ from VA8.out.upd u9 (by have := NYV.out; omega))
          have VB9 := (show Hid _ from VB8.out.upd u9 (by have := NYV.out; omega))
          have VR9 := (show Hid _ from VR8.out.upd u9 (by have := NYV.out; omega))
          have BB9 := (show Hid _ from u9.bel BB8.out (by have := NYV.out; have := HP.out; omega))
          refine hK.out _ _ (sdec VA9.out VB9.out) (fun hHeld => ?_)
          clear hK K hHeld v9 u9
          refine wpAnyH_done (by kernel_rfl) ?_ _
          refine NoPanic.normal ?_
          go_wp2_with fail
          go_meet
          exact ⟨xx, yy, mx, ax, nx, kx, my, ay, ny, ky, rfl, rfl, XV9, JX9, YV9, JY9, VA9, VB9, VR9, BB9, ⟨NXV.out, NYV.out⟩⟩
        · go_simp
          have VA_c5 := (show Hid _ from VA_c2.out.alloc (.cells ([.bool false, .slice none 0 0] : List Value).toArray 46))
          have VB_c5 := (show Hid _ from VB_c2.out.alloc (.cells ([.bool false, .slice none 0 0] : List Value).toArray 46))
          have VR_c5 := (show Hid _ from VR_c2.out.alloc (.cells ([.bool false, .slice none 0 0] : List Value).toArray 46))
          have JX_c5 := (show Hid _ from JX_c2.out.alloc (.cells ([.bool false, .slice none 0 0] : List Value).toArray 46))
          have JY_c5 := (show Hid _ from JY_c2.out.alloc (.cells ([.bool false, .slice none 0 0] : List Value).toArray 46))
          have BB_c5 := (show Hid _ from BB_c2.out.alloc BB_c2.out.size (.cells ([.bool false, .slice none 0 0] : List Value).toArray 46))
          have LL_c5 := (show Hid _ from Nat.le_trans LL_c2.out (by simp : wc2.heap.size ≤ (wc2.alloc (.cells ([.bool false, .slice none 0 0] : List Value).toArray 46)).heap.size))
          have YV_c5 := (show Hid _ from va_new wc2 [.bool false, .slice none 0 0] 46)
          have NYV : Hid (p + 1 + 1 < wc2.heap.size) := LL_c2.out
          have SS_c5 := (show Hid _ from sdec VA_c5.out VB_c5.out)
          refine hK.out _ _ SS_c5.out (fun hHeld => ?_)
          try simp only [Act.put, List.setIfInBounds_toArray, List.set_cons_zero, List.set_cons_succ]
          clear hK K hHeld
          change wpAnyH _ _ _ _ _ _ _ _ (wc2.alloc (.cells ([.bool false, .slice none 0 0] : List Value).toArray 46))
          generalize wc2.alloc (.cells ([.bool false, .slice none 0 0] : List Value).toArray 46) = wc5 at *
          generalize wc2.heap.size = yy at *
          refine wpAnyH_ready (rs := [4]) (by kernel_rfl) (by simp) ?_
          refine AllReadyH.cons (by exact rfl) (fun K hK => ?_) AllReadyH.nil
          go_simp
          have VA_c6 := (show Hid _ from VA_c5.out.alloc (.cells ([.bool false, .slice none 0 0] : List Value).toArray 46))
          have VB_c6 := (show Hid _ from VB_c5.out.alloc (.cells ([.bool false, .slice none 0 0] : List Value).toArray 46))
          have VR_c6 := (show Hid _ from VR_c5.out.alloc (.cells ([.bool false, .slice none 0 0] : List Value).toArray 46))
          have JX_c6 := (show Hid _ from JX_c5.out.alloc (.cells ([.bool false, .slice none 0 0] : List Value).toArray 46))
          have JY_c6 := (show Hid _ from JY_c5.out.alloc (.cells ([.bool false, .slice none 0 0] : List Value).toArray 46))
          have YV_c6 := (show Hid _ from YV_c5.out.alloc (.cells ([.bool false, .slice none 0 0] : List Value).toArray 46))
          have BB_c6 := (show Hid _ from BB_c5.out.alloc BB_c5.out.size (.cells ([.bool false, .slice none 0 0] : List Value).toArray 46))
          have LL_c6 := (show Hid _ from Nat.le_trans LL_c5.out (by simp : wc5.heap.size ≤ (wc5.alloc (.cells ([.bool false, .slice none 0 0] : List Value).toArray 46)).heap.size))
          have XV_c6 := (show Hid _ from va_new wc5 [.bool false, .slice none 0 0] 46)
          have NXV : Hid (p + 1 + 1 < wc5.heap.size) := LL_c5.out
          have EYVXV : Hid (yy < wc5.heap.size) := YV_c5.out.lt
          have SS_c6 := (show Hid _ from sdec VA_c6.out VB_c6.out)
          refine hK.out _ _ SS_c6.out (fun hHeld => ?_)
          try simp only [Act.put, List.setIfInBounds_toArray, List.set_cons_zero, List.set_cons_succ]
          clear hK K hHeld
          change wpAnyH _ _ _ _ _ _ _ _ (wc5.alloc (.cells ([.bool false, .slice none 0 0] : List Value).toArray 46))
          generalize wc5.alloc (.cells ([.bool false, .slice none 0 0] : List Value).toArray 46) = wc6 at *
          generalize wc5.heap.size = xx at *
          have HXY : Hid (xx ≠ yy) := (by have := EYVXV.out; omega : xx ≠ yy)
          obtain ⟨mx, ax, nx, kx, rfl, _⟩ := JX_c6.out.form
          obtain ⟨my, ay, ny, ky, rfl, _⟩ := JY_c6.out.form
          refine wpAnyH_ready (rs := [6]) (by kernel_rfl) (by simp) ?_
          refine AllReadyH.cons (by exact rfl) (fun K hK => ?_) AllReadyH.nil
          refine stAn (by rfl) (by rfl) 46 _ _ (by rfl) xx (by rfl) [.bool false, .slice none 0 0] [.bool mx, .slice ax nx kx] (by rfl) 46 XV_c6.out infoW rfl (il_one _ _ _ _) ?_
          intro w8 v8 u8
          have XV8 := (show Hid _ from v8)
          have YV8 := (show Hid _ from YV_c6.out.upd u8 (by have := HXY.out; omega))
          have JX8 := (show Hid _ from JX_c6.out.upd u8 XV_c6.out (by decide))
          have JY8 := (show Hid _ from JY_c6.out.upd u8 XV_c6.out (by decide))
          have VA8 := (show Hid _ from VA_c6.out.upd u8 (by have := NXV.out; omega))
          have VB8 := (show Hid _ from VB_c6.out.upd u8 (by have := NXV.out; omega))
          have VR8 := (show Hid _ from VR_c6.out.upd u8 (by have := NXV.out; omega))
          have BB8 := (show Hid _ from u8.bel BB_c6.out (by have := NXV.out; have := HP.out; omega))
          have SS8 := (show Hid _ from sdec VA8.out VB8.out)
          clear v8 u8
          refine hK.out _ _ SS8.out (fun hHeld => ?_)
          clear hK K hHeld
          refine wpAnyH_ready (rs := [7]) (by kernel_rfl) (by simp) ?_
          refine AllReadyH.cons (by exact rfl) (fun K hK => ?_) AllReadyH.nil
          refine stAn (by rfl) (by rfl) 46 _ _ (by rfl) yy (by rfl) [.bool false, .slice none 0 0] [.bool my, .slice ay ny ky] (by rfl) 46 YV8.out infoW rfl (il_one _ _ _ _) ?_
          intro w9 v9 u9
          have XV9 := (show Hid _ from XV8.out.upd u9 (by have := HXY.out; omega))
          have YV9 := (show Hid _ from v9)
          have JX9 := (show Hid _ from JX8.out.upd u9 YV8.out (by decide))
          have JY9 := (show Hid _ from JY8.out.upd u9 YV8.out (by decide))
          have VA9 := (show Hid _ from VA8.out.upd u9 (by have := NYV.out; omega))
          have VB9 := (show Hid _ from VB8.out.upd u9 (by have := NYV.out; omega))
          have VR9 := (show Hid _ from VR8.out.upd u9 (by have := NYV.out; omega))
          have BB9 := (show Hid _ from u9.bel BB8.out (by have := NYV.out; have := HP.out; omega))
          refine hK.out _ _ (sdec VA9.out VB9.out) (fun hHeld => ?_)
          clear hK K hHeld v9 u9
          refine wpAnyH_done (by kernel_rfl) ?_ _
          refine NoPanic.normal ?_
          go_wp2_with fail
          go_meet
          exact ⟨xx, yy, mx, ax, nx, kx, my, ay, ny, ky, rfl, rfl, XV9, JX9, YV9, JY9, VA9, VB9, VR9, BB9, ⟨NXV.out, NYV.out⟩⟩
      · go_simp
        have VA_c7 := (show Hid _ from VA_c1.out.alloc (.cells ([.bool false, .slice none 0 0] : List Value).toArray 46))
        have VB_c7 := (show Hid _ from VB_c1.out.alloc (.cells ([.bool false, .slice none 0 0] : List Value).toArray 46))
        have VR_c7 := (show Hid _ from VR_c1.out.alloc (.cells ([.bool false, .slice none 0 0] : List Value).toArray 46))
        have JX_c7 := (show Hid _ from JX_c1.out.alloc (.cells ([.bool false, .slice none 0 0] : List Value).toArray 46))
        have BB_c7 := (show Hid _ from BB_c1.out.alloc BB_c1.out.size (.cells ([.bool false, .slice none 0 0] : List Value).toArray 46))
        have LL_c7 := (show Hid _ from Nat.le_trans LL_c1.out (by simp : wc1.heap.size ≤ (wc1.alloc (.cells ([.bool false, .slice none 0 0] : List Value).toArray 46)).heap.size))
        have XV_c7 := (show Hid _ from va_new wc1 [.bool false, .slice none 0 0] 46)
        have NXV : Hid (p + 1 + 1 < wc1.heap.size) := LL_c1.out
        have SS_c7 := (show Hid _ from sdec VA_c7.out VB_c7.out)
        refine hK.out _ _ SS_c7.out (fun hHeld => ?_)
        try simp only [Act.put, List.setIfInBounds_toArray, List.set_cons_zero, List.set_cons_succ]
        clear hK K hHeld
        change wpAnyH _ _ _ _ _ _ _ _ (wc1.alloc (.cells ([.bool false, .slice none 0 0] : List Value).toArray 46))
        generalize wc1.alloc (.cells ([.bool false, .slice none 0 0] : List Value).toArray 46) = wc7 at *
        generalize wc1.heap.size = xx at *
        refine wpAnyH_ready (rs := [3, 5]) (by kernel_rfl) (by simp) ?_
        refine AllReadyH.cons (by exact rfl) (fun K hK => ?_) (AllReadyH.cons (by exact rfl) (fun K hK => ?_) AllReadyH.nil)
        · go_simp
          refine (coef_ok cb sb _ IB.out).mono ?_
          rintro e wc8 ⟨⟨ry, rfl, ic8⟩, bc8⟩
          have VA_c8 := (show Hid _ from VA_c7.out.step bc8)
          have VB_c8 := (show Hid _ from VB_c7.out.step bc8)
          have VR_c8 := (show Hid _ from VR_c7.out.step bc8)
          have JX_c8 := (show Hid _ from JX_c7.out.step bc8)
          have XV_c8 := (show Hid _ from XV_c7.out.step bc8)
          have BB_c8 := (show Hid _ from BB_c7.out.trans (bc8.mono BB_c7.out.size))
          have LL_c8 := (show Hid _ from Nat.le_trans LL_c7.out bc8.size)
          have JY_c8 := (show Hid _ from ic8)
          have SS_c8 := (show Hid _ from sdec VA_c8.out VB_c8.out)
          clear bc8 ic8
          go_wp2_with fail
          refine hK.out _ _ SS_c8.out (fun hHeld => ?_)
          try simp only [Act.put, List.setIfInBounds_toArray, List.set_cons_zero, List.set_cons_succ]
          clear hK K hHeld
          refine wpAnyH_ready (rs := [5]) (by kernel_rfl) (by simp) ?_
          refine AllReadyH.cons (by exact rfl) (fun K hK => ?_) AllReadyH.nil
          go_simp
          have VA_c9 := (show Hid _ from VA_c8.out.alloc (.cells ([.bool false, .slice none 0 0] : List Value).toArray 46))
          have VB_c9 := (show Hid _ from VB_c8.out.alloc (.cells ([.bool false, .slice none 0 0] : List Value).toArray 46))
          have VR_c9 := (show Hid _ from VR_c8.out.alloc (.cells ([.bool false, .slice none 0 0] : List Value).toArray 46))
          have JX_c9 := (show Hid _ from JX_c8.out.alloc (.cells ([.bool false, .slice none 0 0] : List Value).toArray 46))
          have XV_c9 := (show Hid _ from XV_c8.out.alloc (.cells ([.bool false, .slice none 0 0] : List Value).toArray 46))
          have JY_c9 := (show Hid _ from JY_c8.out.alloc (.cells ([.bool false, .slice none 0 0] : List Value).toArray 46))
          have BB_c9 := (show Hid _ from BB_c8.out.alloc BB_c8.out.size (.cells ([.bool false, .slice none 0 0] : List Value).toArray 46))
          have LL_c9 := (show Hid _ from Nat.le_trans LL_c8.out (by simp : wc8.heap.size ≤ (wc8.alloc (.cells ([.bool false, .slice none 0 0] : List Value).toArray 46)).heap.size))
          have YV_c9 := (show Hid _ from va_new wc8 [.bool false, .slice none 0 0] 46)
          have NYV : Hid (p + 1 + 1 < wc8.heap.size) := LL_c8.out
          have EXVYV : Hid (xx < wc8.heap.size) := XV_c8.out.lt
          have SS_c9 := (show Hid _ from sdec VA_c9.out VB_c9.out)
          refine hK.out _ _ SS_c9.out (fun hHeld => ?_)
          try simp only [Act.put, List.setIfInBounds_toArray, List.set_cons_zero, List.set_cons_succ]
          clear hK K hHeld
          change wpAnyH _ _ _ _ _ _ _ _ (wc8.alloc (.cells ([.bool false, .slice none 0 0] : List Value).toArray 46))
          generalize wc8.alloc (.cells ([.bool false, .slice none 0 0] : List Value).toArray 46) = wc9 at *
          generalize wc8.heap.size = yy at *
          have HXY : Hid (xx ≠ yy) := (by have := EXVYV.out; omega : xx ≠ yy)
          obtain ⟨mx, ax, nx, kx, rfl, _⟩ := JX_c9.out.form
          obtain ⟨my, ay, ny, ky, rfl, _⟩ := JY_c9.out.form
          refine wpAnyH_ready (rs := [6]) (by kernel_rfl) (by simp) ?_
          refine AllReadyH.cons (by exact rfl) (fun K hK => ?_) AllReadyH.nil
          refine stAn (by rfl) (by rfl) 46 _ _ (by rfl) xx (by rfl) [.bool false, .slice none 0 0] [.bool mx, .slice ax nx kx] (by rfl) 46 XV_c9.out infoW rfl (il_one _ _ _ _) ?_
          intro w8 v8 u8
          have XV8 := (show Hid _ from v8)
          have YV8 := (show Hid _ from YV_c9.out.upd u8 (by have := HXY.out; omega))
          have JX8 := (show Hid _ from JX_c9.out.upd u8 XV_c9.out (by decide))
          have JY8 := (show Hid _ from JY_c9.out.upd u8 XV_c9.out (by decide))
          have VA8 := (show Hid _ from VA_c9.out.upd u8 (by have := NXV.out; omega))
          have VB8 := (show Hid _ from VB_c9.out.upd u8 (by have := NXV.out; omega))
          have VR8 := (show Hid _ from VR_c9.out.upd u8 (by have := NXV.out; omega))
          have BB8 := (show Hid _ from u8.bel BB_c9.out (by have := NXV.out; have := HP.out; omega))
          have SS8 := (show Hid _ from sdec VA8.out VB8.out)
          clear v8 u8
          refine hK.out _ _ SS8.out (fun hHeld => ?_)
          clear hK K hHeld
          refine wpAnyH_ready (rs := [7]) (by kernel_rfl) (by simp) ?_
          refine AllReadyH.cons (by exact rfl) (fun K hK => ?_) AllReadyH.nil
          refine stAn (by rfl) (by rfl) 46 _ _ (by rfl) yy (by rfl) [.bool false, .slice none 0 0] [.bool my, .slice ay ny ky] (by rfl) 46 YV8.out infoW rfl (il_one _ _ _ _) ?_
          intro w9 v9 u9
          have XV9 := (show Hid _ from XV8.out.upd u9 (by have := HXY.out; omega))
          have YV9 := (show Hid _ from v9)
          have JX9 := (show Hid _ from JX8.out.upd u9 YV8.out (by decide))
          have JY9 := (show Hid _ from JY8.out.upd u9 YV8.out (by decide))
          have VA9 := (show Hid _ from VA8.out.upd u9 (by have := NYV.out; omega))
          have VB9 := (show Hid _ from VB8.out.upd u9 (by have := NYV.out; omega))
          have VR9 := (show Hid _ from VR8.out.upd u9 (by have := NYV.out; omega))
          have BB9 := (show Hid _ from u9.bel BB8.out (by have := NYV.out; have := HP.out; omega))
          refine hK.out _ _ (sdec VA9.out VB9.out) (fun hHeld => ?_)
          clear hK K hHeld v9 u9
          refine wpAnyH_done (by kernel_rfl) ?_ _
          refine NoPanic.normal ?_
          go_wp2_with fail
          go_meet
          exact ⟨xx, yy, mx, ax, nx, kx, my, ay, ny, ky, rfl, rfl, XV9, JX9, YV9, JY9, VA9, VB9, VR9, BB9, ⟨NXV.out, NYV.out⟩⟩
        · go_simp
          have VA_c10 := (show Hid _ from VA_c7.out.alloc (.cells ([.bool false, .slice none 0 0] : List Value).toArray 46))
          have VB_c10 := (show Hid _ from VB_c7.out.alloc (.cells ([.bool false, .slice none 0 0] : List Value).toArray 46))
          have VR_c10 := (show Hid _ from VR_c7.out.alloc (.cells ([.bool false, .slice none 0 0] : List Value).toArray 46))
          have JX_c10 := (show Hid _ from JX_c7.out.alloc (.cells ([.bool false, .slice none 0 0] : List Value).toArray 46))
          have XV_c10 := (show Hid _ from XV_c7.out.alloc (.cells ([.bool false, .slice none 0 0] : List Value).toArray 46))
          have BB_c10 := (show Hid _ from BB_c7.out.alloc BB_c7.out.size (.cells ([.bool false, .slice none 0 0] : List Value).toArray 46))
          have LL_c10 := (show Hid _ from Nat.le_trans LL_c7.out (by simp : wc7.heap.size ≤ (wc7.alloc (.cells ([.bool false, .slice none 0 0] : List Value).toArray 46)).heap.size))
          have YV_c10 := (show Hid _ from va_new wc7 [.bool false, .slice none 0 0] 46)
          have NYV : Hid (p + 1 + 1 < wc7.heap.size) := LL_c7.out
          have EXVYV : Hid (xx < wc7.heap.size) := XV_c7.out.lt
          have SS_c10 := (show Hid _ from sdec VA_c10.out VB_c10.out)
          refine hK.out _ _ SS_c10.out (fun hHeld => ?_)
          try simp only [Act.put, List.setIfInBounds_toArray, List.set_cons_zero, List.set_cons_succ]
          clear hK K hHeld
          change wpAnyH _ _ _ _ _ _ _ _ (wc7.alloc (.cells ([.bool false, .slice none 0 0] : List Value).toArray 46))
          generalize wc7.alloc (.cells ([.bool false, .slice none 0 0] : List Value).toArray 46) = wc10 at *
          generalize wc7.heap.size = yy at *
          refine wpAnyH_ready (rs := [3]) (by kernel_rfl) (by simp) ?_
          refine AllReadyH.cons (by exact rfl) (fun K hK => ?_) AllReadyH.nil
          go_simp
          refine (coef_ok cb sb _ IB.out).mono ?_
          rintro e wc11 ⟨⟨ry, rfl, ic11⟩, bc11⟩
          have VA_c11 := (show Hid _ from VA_c10.out.step bc11)
          have VB_c11 := (show Hid _ from VB_c10.out.step bc11)
          have VR_c11 := (show Hid _ from VR_c10.out.step bc11)
          have JX_c11 := (show Hid _ from JX_c10.out.step bc11)
          have XV_c11 := (show Hid _ from XV_c10.out.step bc11)
          have YV_c11 := (show Hid _ from YV_c10.out.step bc11)
          have BB_c11 := (show Hid _ from BB_c10.out.trans (bc11.mono BB_c10.out.size))
          have LL_c11 := (show Hid _ from Nat.le_trans LL_c10.out bc11.size)
          have JY_c11 := (show Hid _ from ic11)
          have SS_c11 := (show Hid _ from sdec VA_c11.out VB_c11.out)
          clear bc11 ic11
          go_wp2_with fail
          refine hK.out _ _ SS_c11.out (fun hHeld => ?_)
          try simp only [Act.put, List.setIfInBounds_toArray, List.set_cons_zero, List.set_cons_succ]
          clear hK K hHeld
          have HXY : Hid (xx ≠ yy) := (by have := EXVYV.out; omega : xx ≠ yy)
          obtain ⟨mx, ax, nx, kx, rfl, _⟩ := JX_c11.out.form
          obtain ⟨my, ay, ny, ky, rfl, _⟩ := JY_c11.out.form
          refine wpAnyH_ready (rs := [6]) (by kernel_rfl) (by simp) ?_
          refine AllReadyH.cons (by exact rfl) (fun K hK => ?_) AllReadyH.nil
          refine stAn (by rfl) (by rfl) 46 _ _ (by rfl) xx (by rfl) [.bool false, .slice none 0 0] [.bool mx, .slice ax nx kx] (by rfl) 46 XV_c11.out infoW rfl (il_one _ _ _ _) ?_
          intro w8 v8 u8
          have XV8 := (show Hid _ from v8)
          have YV8 := (show Hid _ from YV_c11.out.upd u8 (by have := HXY.out; omega))
          have JX8 := (show Hid _ from JX_c11.out.upd u8 XV_c11.out (by decide))
          have JY8 := (show Hid _ from JY_c11.out.upd u8 XV_c11.out (by decide))
          have VA8 := (show Hid _ from VA_c11.out.upd u8 (by have := NXV.out; omega))
          have VB8 := (show Hid _ from VB_c11.out.upd u8 (by have := NXV.out; omega))
          have VR8 := (show Hid _ from VR_c11.out.upd u8 (by have := NXV.out; omega))
          have BB8 := (show Hid _ from u8.bel BB_c11.out (by have := NXV.out; have := HP.out; omega))
          have SS8 := (show Hid _ from sdec VA8.out VB8.out)
          clear v8 u8
          refine hK.out _ _ SS8.out (fun hHeld => ?_)
          clear hK K hHeld
          refine wpAnyH_ready (rs := [7]) (by kernel_rfl) (by simp) ?_
          refine AllReadyH.cons (by exact rfl) (fun K hK => ?_) AllReadyH.nil
          refine stAn (by rfl) (by rfl) 46 _ _ (by rfl) yy (by rfl) [.bool false, .slice none 0 0] [.bool my, .slice ay ny ky] (by rfl) 46 YV8.out infoW rfl (il_one _ _ _ _) ?_
          intro w9 v9 u9
          have XV9 := (show Hid _ from XV8.out.upd u9 (by have := HXY.out; omega))
          have YV9 := (show Hid _ from v9)
          have JX9 := (show Hid _ from JX8.out.upd u9 YV8.out (by decide))
          have JY9 := (show Hid _ from JY8.out.upd u9 YV8.out (by decide))
          have VA9 := (show Hid _ from VA8.out.upd u9 (by have := NYV.out; omega))
          have VB9 := (show Hid _ from VB8.out.upd u9 (by have := NYV.out; omega))
          have VR9 := (show Hid _ from VR8.out.upd u9 (by have := NYV.out; omega))
          have BB9 := (show Hid _ from u9.bel BB8.out (by have := NYV.out; have := HP.out; omega))
          refine hK.out _ _ (sdec VA9.out VB9.out) (fun hHeld => ?_)
          clear hK K hHeld v9 u9
          refine wpAnyH_done (by kernel_rfl) ?_ _
          refine NoPanic.normal ?_
          go_wp2_with fail
          go_meet
          exact ⟨xx, yy, mx, ax, nx, kx, my, ay, ny, ky, rfl, rfl, XV9, JX9, YV9, JY9, VA9, VB9, VR9, BB9, ⟨NXV.out, NYV.out⟩⟩
      · go_simp
        have VA_c12 := (show Hid _ from VA_c1.out.alloc (.cells ([.bool false, .slice none 0 0] : List Value).toArray 46))
        have VB_c12 := (show Hid _ from VB_c1.out.alloc (.cells ([.bool false, .slice none 0 0] : List Value).toArray 46))
        have VR_c12 := (show Hid _ from VR_c1.out.alloc (.cells ([.bool false, .slice none 0 0] : List Value).toArray 46))
        have JX_c12 := (show Hid _ from JX_c1.out.alloc (.cells ([.bool false, .slice none 0 0] : List Value).toArray 46))
        have BB_c12 := (show Hid _ from BB_c1.out.alloc BB_c1.out.size (.cells ([.bool false, .slice none 0 0] : List Value).toArray 46))
        have LL_c12 := (show Hid _ from Nat.le_trans LL_c1.out (by simp : wc1.heap.size ≤ (wc1.alloc (.cells ([.bool false, .slice none 0 0] : List Value).toArray 46)).heap.size))
        have YV_c12 := (show Hid _ from va_new wc1 [.bool false, .slice none 0 0] 46)
        have NYV : Hid (p + 1 + 1 < wc1.heap.size) := LL_c1.out
        have SS_c12 := (show Hid _ from sdec VA_c12.out VB_c12.out)
        refine hK.out _ _ SS_c12.out (fun hHeld => ?_)
        try simp only [Act.put, List.setIfInBounds_toArray, List.set_cons_zero, List.set_cons_succ]
        clear hK K hHeld
        change wpAnyH _ _ _ _ _ _ _ _ (wc1.alloc (.cells ([.bool false, .slice none 0 0] : List Value).toArray 46))
        generalize wc1.alloc (.cells ([.bool false, .slice none 0 0] : List Value).toArray 46) = wc12 at *
        generalize wc1.heap.size = yy at *
        refine wpAnyH_ready (rs := [3, 4]) (by kernel_rfl) (by simp) ?_
        refine AllReadyH.cons (by exact rfl) (fun K hK => ?_) (AllReadyH.cons (by exact rfl) (fun K hK => ?_) AllReadyH.nil)
        · go_simp
          refine (coef_ok cb sb _ IB.out).mono ?_
          rintro e wc13 ⟨⟨ry, rfl, ic13⟩, bc13⟩
          have VA_c13 := (show Hid _ from VA_c12.out.step bc13)
          have VB_c13 := (show Hid _ from VB_c12.out.step bc13)
          have VR_c13 := (show Hid _ from VR_c12.out.step bc13)
          have JX_c13 := (show Hid _ from JX_c12.out.step bc13)
          have YV_c13 := (show Hid _ from YV_c12.out.step bc13)
          have BB_c13 := (show Hid _ from BB_c12.out.trans (bc13.mono BB_c12.out.size))
          have LL_c13 := (show Hid _ from Nat.le_trans LL_c12.out bc13.size)
          have JY_c13 := (show Hid _ from ic13)
          have SS_c13 := (show Hid _ from sdec VA_c13.out VB_c13.out)
          clear bc13 ic13
          go_wp2_with fail
          refine hK.out _ _ SS_c13.out (fun hHeld => ?_)
          try simp only [Act.put, List.setIfInBounds_toArray, List.set_cons_zero, List.set_cons_succ]
          clear hK K hHeld
          refine wpAnyH_ready (rs := [4]) (by kernel_rfl) (by simp) ?_
          refine AllReadyH.cons (by exact rfl) (fun K hK => ?_) AllReadyH.nil
          go_simp
          have VA_c14 := (show Hid _ from VA_c13.out.alloc (.cells ([.bool false, .slice none 0 0] : List Value).toArray 46))
          have VB_c14 := (show Hid _ from VB_c13.out.alloc (.cells ([.bool false, .slice none 0 0] : List Value).toArray 46))
          have VR_c14 := (show Hid _ from VR_c13.out.alloc (.cells ([.bool false, .slice none 0 0] : List Value).toArray 46))
          have JX_c14 := (show Hid _ from JX_c13.out.alloc (.cells ([.bool false, .slice none 0 0] : List Value).toArray 46))
          have YV_c14 := (show Hid _ from YV_c13.out.alloc (.cells ([.bool false, .slice none 0 0] : List Value).toArray 46))
          have JY_c14 := (show Hid _ from JY_c13.out.alloc (.cells ([.bool false, .slice none 0 0] : List Value).toArray 46))
          have BB_c14 := (show Hid _ from BB_c13.out.alloc BB_c13.out.size (.cells ([.bool false, .slice none 0 0] : List Value).toArray 46))
          have LL_c14 := (show Hid _ from Nat.le_trans LL_c13.out (by simp : wc13.heap.size ≤ (wc13.alloc (.cells ([.bool false, .slice none 0 0] : List Value).toArray 46)).heap.size))
          have XV_c14 := (show Hid _ from va_new wc13 [.bool false, .slice none 0 0] 46)
          have NXV : Hid (p + 1 + 1 < wc13.heap.size) := LL_c13.out
          have EYVXV : Hid (yy < wc13.heap.size) := YV_c13.out.lt
          have SS_c14 := (show Hid _ from sdec VA_c14.out VB_c14.out)
          refine hK.out _ _ SS_c14.out (fun hHeld => ?_)
          try simp only [Act.put, List.setIfInBounds_toArray, List.set_cons_zero, List.set_cons_succ]
          clear hK K hHeld
          change wpAnyH _ _ _ _ _ _ _ _ (wc13.alloc (.cells ([.bool false, .slice none 0 0] : List Value).toArray 46))
          generalize wc13.alloc (.cells ([.bool false, .slice none 0 0] : List Value).toArray 46) = wc14 at *
          generalize wc13.heap.size = xx at *
          have HXY : Hid (xx ≠ yy) := (by have := EYVXV.out; omega : xx ≠ yy)
          obtain ⟨mx, ax, nx, kx, rfl, _⟩ := JX_c14.out.form
          obtain ⟨my, ay, ny, ky, rfl, _⟩ := JY_c14.out.form
          refine wpAnyH_ready (rs := [6]) (by kernel_rfl) (by simp) ?_
          refine AllReadyH.cons (by exact rfl) (fun K hK => ?_) AllReadyH.nil
          refine stAn (by rfl) (by rfl) 46 _ _ (by rfl) xx (by rfl) [.bool false, .slice none 0 0] [.bool mx, .slice ax nx kx] (by rfl) 46 XV_c14.out infoW rfl (il_one _ _ _ _) ?_
          intro w8 v8 u8
          have XV8 := (show Hid _ from v8)
          have YV8 := (show Hid _ from YV_c14.out.upd u8 (by have := HXY.out; omega))
          have JX8 := (show Hid _ from JX_c14.out.upd u8 XV_c14.out (by decide))
          have JY8 := (show Hid _ from JY_c14.out.upd u8 XV_c14.out (by decide))
          have VA8 := (show Hid _ from VA_c14.out.upd u8 (by have := NXV.out; omega))
          have VB8 := (show Hid _ from VB_c14.out.upd u8 (by have := NXV.out; omega))
          have VR8 := (show Hid _ from VR_c14.out.upd u8 (by have := NXV.out; omega))
          have BB8 := (show Hid _ from u8.bel BB_c14.out (by have := NXV.out; have := HP.out; omega))
          have SS8 := (show Hid _ from sdec VA8.out VB8.out)
          clear v8 u8
          refine hK.out _ _ SS8.out (fun hHeld => ?_)
          clear hK K hHeld
          refine wpAnyH_ready (rs := [7]) (by kernel_rfl) (by simp) ?_
          refine AllReadyH.cons (by exact rfl) (fun K hK => ?_) AllReadyH.nil
          refine stAn (by rfl) (by rfl) 46 _ _ (by rfl) yy (by rfl) [.bool false, .slice none 0 0] [.bool my, .slice ay ny ky] (by rfl) 46 YV8.out infoW rfl (il_one _ _ _ _) ?_
          intro w9 v9 u9
          have XV9 := (show Hid _ from XV8.out.upd u9 (by have := HXY.out; omega))
          have YV9 := (show Hid _ from v9)
          have JX9 := (show Hid _ from JX8.out.upd u9 YV8.out (by decide))
          have JY9 := (show Hid _ from JY8.out.upd u9 YV8.out (by decide))
          have VA9 := (show Hid _ from VA8.out.upd u9 (by have := NYV.out; omega))
          have VB9 := (show Hid _ from VB8.out.upd u9 (by have := NYV.out; omega))
          have VR9 := (show Hid _ from VR8.out.upd u9 (by have := NYV.out; omega))
          have BB9 := (show Hid _ from u9.bel BB8.out (by have := NYV.out; have := HP.out; omega))
          refine hK.out _ _ (sdec VA9.out VB9.out) (fun hHeld => ?_)
          clear hK K hHeld v9 u9
          refine wpAnyH_done (by kernel_rfl) ?_ _
          refine NoPanic.normal ?_
          go_wp2_with fail
          go_meet
          exact ⟨xx, yy, mx, ax, nx, kx, my, ay, ny, ky, rfl, rfl, XV9, JX9, YV9, JY9, VA9, VB9, VR9, BB9, ⟨NXV.out, NYV.out⟩⟩
        · go_simp
          have VA_c15 := (show Hid _ from VA_c12.out.alloc (.cells ([.bool false, .slice none 0 0] : List Value).toArray 46))
          have VB_c15 := (show Hid _ from VB_c12.out.alloc (.cells ([.bool false, .slice none 0 0] : List Value).toArray 46))
          have VR_c15 := (show Hid _ from VR_c12.out.alloc (.cells ([.bool false, .slice none 0 0] : List Value).toArray 46))
          have JX_c15 := (show Hid _ from JX_c12.out.alloc (.cells ([.bool false, .slice none 0 0] : List Value).toArray 46))
          have YV_c15 := (show Hid _ from YV_c12.out.alloc (.cells ([.bool false, .slice none 0 0] : List Value).toArray 46))
          have BB_c15 := (show Hid _ from BB_c12.out.alloc BB_c12.out.size (.cells ([.bool false, .slice none 0 0] : List Value).toArray 46))
          have LL_c15 := (show Hid _ from Nat.le_trans LL_c12.out (by simp : wc12.heap.size ≤ (wc12.alloc (.cells ([.bool false, .slice none 0 0] : List Value).toArray 46)).heap.size))
          have XV_c15 := (show Hid _ from va_new wc12 [.bool false, .slice none 0 0] 46)
          have NXV : Hid (p + 1 + 1 < wc12.heap.size) := LL_c12.out
          have EYVXV : Hid (yy < wc12.heap.size) := YV_c12.out.lt
          have SS_c15 := (show Hid _ from sdec VA_c15.out VB_c15.out)
          refine hK.out _ _ SS_c15.out (fun hHeld => ?_)
          try simp only [Act.put, List.setIfInBounds_toArray, List.set_cons_zero, List.set_cons_succ]
          clear hK K hHeld
          change wpAnyH _ _ _ _ _ _ _ _ (wc12.alloc (.cells ([.bool false, .slice none 0 0] : List Value).toArray 46))
          generalize wc12.alloc (.cells ([.bool false, .slice none 0 0] : List Value).toArray 46) = wc15 at *
          generalize wc12.heap.size = xx at *
          refine wpAnyH_ready (rs := [3]) (by kernel_rfl) (by simp) ?_
          refine AllReadyH.cons (by exact rfl) (fun K hK => ?_) AllReadyH.nil
          go_simp
          refine (coef_ok cb sb _ IB.out).mono ?_
          rintro e wc16 ⟨⟨ry, rfl, ic16⟩, bc16⟩
          have VA_c16 := (show Hid _ from VA_c15.out.step bc16)
          have VB_c16 := (show Hid _ from VB_c15.out.step bc16)
          have VR_c16 := (show Hid _ from VR_c15.out.step bc16)
          have JX_c16 := (show Hid _ from JX_c15.out.step bc16)
          have YV_c16 := (show Hid _ from YV_c15.out.step bc16)
          have XV_c16 := (show Hid _ from XV_c15.out.step bc16)
          have BB_c16 := (show Hid _ from BB_c15.out.trans (bc16.mono BB_c15.out.size))
          have LL_c16 := (show Hid _ from Nat.le_trans LL_c15.out bc16.size)
          have JY_c16 := (show Hid _ from ic16)
          have SS_c16 := (show Hid _ from sdec VA_c16.out VB_c16.out)
          clear bc16 ic16
          go_wp2_with fail
          refine hK.out _ _ SS_c16.out (fun hHeld => ?_)
          try simp only [Act.put, List.setIfInBounds_toArray, List.set_cons_zero, List.set_cons_succ]
          clear hK K hHeld
          have HXY : Hid (xx ≠ yy) := (by have := EYVXV.out; omega : xx ≠ yy)
          obtain ⟨mx, ax, nx, kx, rfl, _⟩ := JX_c16.out.form
          obtain ⟨my, ay, ny, ky, rfl, _⟩ := JY_c16.out.form
          refine wpAnyH_ready (rs := [6]) (by kernel_rfl) (by simp) ?_
          refine AllReadyH.cons (by exact rfl) (fun K hK => ?_) AllReadyH.nil
          refine stAn (by rfl) (by rfl) 46 _ _ (by rfl) xx (by rfl) [.bool false, .slice none 0 0] [.bool mx, .slice ax nx kx] (by rfl) 46 XV_c16.out infoW rfl (il_one _ _ _ _) ?_
          intro w8 v8 u8
          have XV8 := (show Hid _ from v8)
          have YV8 := (show Hid _ from YV_c16.out.upd u8 (by have := HXY.out; omega))
          have JX8 := (show Hid _ from JX_c16.out.upd u8 XV_c16.out (by decide))
          have JY8 := (show Hid _ from JY_c16.out.upd u8 XV_c16.out (by decide))
          have VA8 := (show Hid _ from VA_c16.out.upd u8 (by have := NXV.out; omega))
          have VB8 := (show Hid _ from VB_c16.out.upd u8 (by have := NXV.out; omega))
          have VR8 := (show Hid _ from VR_c16.out.upd u8 (by have := NXV.out; omega))
          have BB8 := (show Hid _ from u8.bel BB_c16.out (by have := NXV.out; have := HP.out; omega))
          have SS8 := (show Hid _ from sdec VA8.out VB8.out)
          clear v8 u8
          refine hK.out _ _ SS8.out (fun hHeld => ?_)
          clear hK K hHeld
          refine wpAnyH_ready (rs := [7]) (by kernel_rfl) (by simp) ?_
          refine AllReadyH.cons (by exact rfl) (fun K hK => ?_) AllReadyH.nil
          refine stAn (by rfl) (by rfl) 46 _ _ (by rfl) yy (by rfl) [.bool false, .slice none 0 0] [.bool my, .slice ay ny ky] (by rfl) 46 YV8.out infoW rfl (il_one _ _ _ _) ?_
          intro w9 v9 u9
          have XV9 := (show Hid _ from XV8.out.upd u9 (by have := HXY.out; omega))
          have YV9 := (show Hid _ from v9)
          have JX9 := (show Hid _ from JX8.out.upd u9 YV8.out (by decide))
          have JY9 := (show Hid _ from JY8.out.upd u9 YV8.out (by decide))
          have VA9 := (show Hid _ from VA8.out.upd u9 (by have := NYV.out; omega))
          have VB9 := (show Hid _ from VB8.out.upd u9 (by have := NYV.out; omega))
          have VR9 := (show Hid _ from VR8.out.upd u9 (by have := NYV.out; omega))
          have BB9 := (show Hid _ from u9.bel BB8.out (by have := NYV.out; have := HP.out; omega))
          refine hK.out _ _ (sdec VA9.out VB9.out) (fun hHeld => ?_)
          clear hK K hHeld v9 u9
          refine wpAnyH_done (by kernel_rfl) ?_ _
          refine NoPanic.normal ?_
          go_wp2_with fail
          go_meet
          exact ⟨xx, yy, mx, ax, nx, kx, my, ay, ny, ky, rfl, rfl, XV9, JX9, YV9, JY9, VA9, VB9, VR9, BB9, ⟨NXV.out, NYV.out⟩⟩
    · go_simp
      have VA_c17 := (show Hid _ from VA_x.out.alloc (.cells ([.bool false, .slice none 0 0] : List Value).toArray 46))
      have VB_c17 := (show Hid _ from VB_x.out.alloc (.cells ([.bool false, .slice none 0 0] : List Value).toArray 46))
      have VR_c17 := (show Hid _ from VR_x.out.alloc (.cells ([.bool false, .slice none 0 0] : List Value).toArray 46))
      have BB_c17 := (show Hid _ from BB_x.out.alloc BB_x.out.size (.cells ([.bool false, .slice none 0 0] : List Value).toArray 46))
      have LL_c17 := (show Hid _ from Nat.le_trans LL_x.out (by simp : wx.heap.size ≤ (wx.alloc (.cells ([.bool false, .slice none 0 0] : List Value).toArray 46)).heap.size))
      have XV_c17 := (show Hid _ from va_new wx [.bool false, .slice none 0 0] 46)
      have NXV : Hid (p + 1 + 1 < wx.heap.size) := LL_x.out
      have SS_c17 := (show Hid _ from sdec VA_c17.out VB_c17.out)
      refine hK.out _ _ SS_c17.out (fun hHeld => ?_)
      try simp only [Act.put, List.setIfInBounds_toArray, List.set_cons_zero, List.set_cons_succ]
      clear hK K hHeld
      change wpAnyH _ _ _ _ _ _ _ _ (wx.alloc (.cells ([.bool false, .slice none 0 0] : List Value).toArray 46))
      generalize wx.alloc (.cells ([.bool false, .slice none 0 0] : List Value).toArray 46) = wc17 at *
      generalize wx.heap.size = xx at *
      refine wpAnyH_ready (rs := [1, 5]) (by kernel_rfl) (by simp) ?_
      refine AllReadyH.cons (by exact rfl) (fun K hK => ?_) (AllReadyH.cons (by exact rfl) (fun K hK => ?_) AllReadyH.nil)
      · go_simp
        refine (coef_ok ca sa _ IA.out).mono ?_
        rintro e wc18 ⟨⟨rx, rfl, ic18⟩, bc18⟩
        have VA_c18 := (show Hid _ from VA_c17.out.step bc18)
        have VB_c18 := (show Hid _ from VB_c17.out.step bc18)
        have VR_c18 := (show Hid _ from VR_c17.out.step bc18)
        have XV_c18 := (show Hid _ from XV_c17.out.step bc18)
        have BB_c18 := (show Hid _ from BB_c17.out.trans (bc18.mono BB_c17.out.size))
        have LL_c18 := (show Hid _ from Nat.le_trans LL_c17.out bc18.size)
        have JX_c18 := (show Hid _ from ic18)
        have SS_c18 := (show Hid _ from sdec VA_c18.out VB_c18.out)
        clear bc18 ic18
        go_wp2_with fail
        refine hK.out _ _ SS_c18.out (fun hHeld => ?_)
        try simp only [Act.put, List.setIfInBounds_toArray, List.set_cons_zero, List.set_cons_succ]
        clear hK K hHeld
        refine wpAnyH_ready (rs := [3, 5]) (by kernel_rfl) (by simp) ?_
        refine AllReadyH.cons (by exact rfl) (fun K hK => ?_) (AllReadyH.cons (by exact rfl) (fun K hK => ?_) AllReadyH.nil)
        · go_simp
          refine (coef_ok cb sb _ IB.out).mono ?_
          rintro e wc19 ⟨⟨ry, rfl, ic19⟩, bc19⟩
          have VA_c19 := (show Hid _ from VA_c18.out.step bc19)
          have VB_c19 := (show Hid _ from VB_c18.out.step bc19)
          have VR_c19 := (show Hid _ from VR_c18.out.step bc19)
          have XV_c19 := (show Hid _ from XV_c18.out.step bc19)
          have JX_c19 := (show Hid _ from JX_c18.out.step bc19)
          have BB_c19 := (show Hid _ from BB_c18.out.trans (bc19.mono BB_c18.out.size))
          have LL_c19 := (show Hid _ from Nat.le_trans LL_c18.out bc19.size)
          have JY_c19 := (show Hid _ from ic19)
          have SS_c19 := (show Hid _ from sdec VA_c19.out VB_c19.out)
          clear bc19 ic19
          go_wp2_with fail
          refine hK.out _ _ SS_c19.out (fun hHeld => ?_)
          try simp only [Act.put, List.setIfInBounds_toArray, List.set_cons_zero, List.set_cons_succ]
          clear hK K hHeld
          refine wpAnyH_ready (rs := [5]) (by kernel_rfl) (by simp) ?_
          refine AllReadyH.cons (by exact rfl) (fun K hK => ?_) AllReadyH.nil
          go_simp
          have VA_c20 := (show Hid _ from VA_c19.out.alloc (.cells ([.bool false, .slice none 0 0] : List Value).toArray 46))
          have VB_c20 := (show Hid _ from VB_c19.out.alloc (.cells ([.bool false, .slice none 0 0] : List Value).toArray 46))
          have VR_c20 := (show Hid _ from VR_c19.out.alloc (.cells ([.bool false, .slice none 0 0] : List Value).toArray 46))
          have XV_c20 := (show Hid _ from XV_c19.out.alloc (.cells ([.bool false, .slice none 0 0] : List Value).toArray 46))
          have JX_c20 := (show Hid _ from JX_c19.out.alloc (.cells ([.bool false, .slice none 0 0] : List Value).toArray 46))
          have JY_c20 := (show Hid _ from JY_c19.out.alloc (.cells ([.bool false, .slice none 0 0] : List Value).toArray 46))
          have BB_c20 := (show Hid _ from BB_c19.out.alloc BB_c19.out.size (.cells ([.bool false, .slice none 0 0] : List Value).toArray 46))
          have LL_c20 := (show Hid _ from Nat.le_trans LL_c19.out (by simp : wc19.heap.size ≤ (wc19.alloc (.cells ([.bool false, .slice none 0 0] : List Value).toArray 46)).heap.size))
          have YV_c20 := (show Hid _ from va_new wc19 [.bool false, .slice none 0 0] 46)
          have NYV : Hid (p + 1 + 1 < wc19.heap.size) := LL_c19.out
          have EXVYV : Hid (xx < wc19.heap.size) := XV_c19.out.lt
          have SS_c20 := (show Hid _ from sdec VA_c20.out VB_c20.out)
          refine hK.out _ _ SS_c20.out (fun hHeld => ?_)
          try simp only [Act.put, List.setIfInBounds_toArray, List.set_cons_zero, List.set_cons_succ]
          clear hK K hHeld
          change wpAnyH _ _ _ _ _ _ _ _ (wc19.alloc (.cells ([.bool false, .slice none 0 0] : List Value).toArray 46))
          generalize wc19.alloc (.cells ([.bool false, .slice none 0 0] : List Value).toArray 46) = wc20 at *
          generalize wc19.heap.size = yy at *
          have HXY : Hid (xx ≠ yy) := (by have := EXVYV.out; omega : xx ≠ yy)
          obtain ⟨mx, ax, nx, kx, rfl, _⟩ := JX_c20.out.form
          obtain ⟨my, ay, ny, ky, rfl, _⟩ := JY_c20.out.form
          refine wpAnyH_ready (rs := [6]) (by kernel_rfl) (by simp) ?_
          refine AllReadyH.cons (by exact rfl) (fun K hK => ?_) AllReadyH.nil
          refine stAn (by rfl) (by rfl) 46 _ _ (by rfl) xx (by rfl) [.bool false, .slice none 0 0] [.bool mx, .slice ax nx kx] (by rfl) 46 XV_c20.out infoW rfl (il_one _ _ _ _) ?_
          intro w8 v8 u8
          have XV8 := (show Hid _ from v8)
          have YV8 := (show Hid _ from YV_c20.out.upd u8 (by have := HXY.out; omega))
          have JX8 := (show Hid _ from JX_c20.out.upd u8 XV_c20.out (by decide))
          have JY8 := (show Hid _ from JY_c20.out.upd u8 XV_c20.out (by decide))
          have VA8 := (show Hid _ from VA_c20.out.upd u8 (by have := NXV.out; omega))
          have VB8 := (show Hid _ from VB_c20.out.upd u8 (by have := NXV.out; omega))
          have VR8 := (show Hid _ from VR_c20.out.upd u8 (by have := NXV.out; omega))
          have BB8 := (show Hid _ from u8.bel BB_c20.out (by have := NXV.out; have := HP.out; omega))
          have SS8 := (show Hid _ from sdec VA8.out VB8.out)
          clear v8 u8
          refine hK.out _ _ SS8.out (fun hHeld => ?_)
          clear hK K hHeld
          refine wpAnyH_ready (rs := [7]) (by kernel_rfl) (by simp) ?_
          refine AllReadyH.cons (by exact rfl) (fun K hK => ?_) AllReadyH.nil
          refine stAn (by rfl) (by rfl) 46 _ _ (by rfl) yy (by rfl) [.bool false, .slice none 0 0] [.bool my, .slice ay ny ky] (by rfl) 46 YV8.out infoW rfl (il_one _ _ _ _) ?_
          intro w9 v9 u9
          have XV9 := (show Hid _ from XV8.out.upd u9 (by have := HXY.out; omega))
          have YV9 := (show Hid _ from v9)
          have JX9 := (show Hid _ from JX8.out.upd u9 YV8.out (by decide))
          have JY9 := (show Hid _ from JY8.out.upd u9 YV8.out (by decide))
          have VA9 := (show Hid _ from VA8.out.upd u9 (by have := NYV.out; omega))
          have VB9 := (show Hid _ from VB8.out.upd u9 (by have := NYV.out; omega))
          have VR9 := (show Hid _ from VR8.out.upd u9 (by have := NYV.out; omega))
          have BB9 := (show Hid _ from u9.bel BB8.out (by have := NYV.out; have := HP.out; omega))
          refine hK.out _ _ (sdec VA9.out VB9.out) (fun hHeld => ?_)
          clear hK K hHeld v9 u9
          refine wpAnyH_done (by kernel_rfl) ?_ _
          refine NoPanic.normal ?_
          go_wp2_with fail
          go_meet
          exact ⟨xx, yy, mx, ax, nx, kx, my, ay, ny, ky, rfl, rfl, XV9, JX9, YV9, JY9, VA9, VB9, VR9, BB9, ⟨NXV.out, NYV.out⟩⟩
        · go_simp
          have VA_c21 := (show Hid _ from VA_c18.out.alloc (.cells ([.bool false, .slice none 0 0] : List Value).toArray 46))
          have VB_c21 := (show Hid _ from VB_c18.out.alloc (.cells ([.bool false, .slice none 0 0] : List Value).toArray 46))
          have VR_c21 := (show Hid _ from VR_c18.out.alloc (.cells ([.bool false, .slice none 0 0] : List Value).toArray 46))
          have XV_c21 := (show Hid _ from XV_c18.out.alloc (.cells ([.bool false, .slice none 0 0] : List Value).toArray 46))
          have JX_c21 := (show Hid _ from JX_c18.out.alloc (.cells ([.bool false, .slice none 0 0] : List Value).toArray 46))
          have BB_c21 := (show Hid _ from BB_c18.out.alloc BB_c18.out.size (.cells ([.bool false, .slice none 0 0] : List Value).toArray 46))
          have LL_c21 := (show Hid _ from Nat.le_trans LL_c18.out (by simp : wc18.heap.size ≤ (wc18.alloc (.cells ([.bool false, .slice none 0 0] : List Value).toArray 46)).heap.size))
          have YV_c21 := (show Hid _ from va_new wc18 [.bool false, .slice none 0 0] 46)
          have NYV : Hid (p + 1 + 1 < wc18.heap.size) := LL_c18.out
          have EXVYV : Hid (xx < wc18.heap.size) := XV_c18.out.lt
          have SS_c21 := (show Hid _ from sdec VA_c21.out VB_c21.out)
          refine hK.out _ _ SS_c21.out (fun hHeld => ?_)
          try simp only [Act.put, List.setIfInBounds_toArray, List.set_cons_zero, List.set_cons_succ]
          clear hK K hHeld
          change wpAnyH _ _ _ _ _ _ _ _ (wc18.alloc (.cells ([.bool false, .slice none 0 0] : List Value).toArray 46))
          generalize wc18.alloc (.cells ([.bool false, .slice none 0 0] : List Value).toArray 46) = wc21 at *
          generalize wc18.heap.size = yy at *
          refine wpAnyH_ready (rs := [3]) (by kernel_rfl) (by simp) ?_
          refine AllReadyH.cons (by exact rfl) (fun K hK => ?_) AllReadyH.nil
          go_simp
          refine (coef_ok cb sb _ IB.out).mono ?_
          rintro e wc22 ⟨⟨ry, rfl, ic22⟩, bc22⟩
          have VA_c22 := (show Hid _ from VA_c21.out.step bc22)
          have VB_c22 := (show Hid _ from VB_c21.out.step bc22)
          have VR_c22 := (show Hid _ from VR_c21.out.step bc22)
          have XV_c22 := (show Hid _ from XV_c21.out.step bc22)
          have JX_c22 := (show Hid _ from JX_c21.out.step bc22)
          have YV_c22 := (show Hid _ from YV_c21.out.step bc22)
          have BB_c22 := (show Hid _ from BB_c21.out.trans (bc22.mono BB_c21.out.size))
          have LL_c22 := (show Hid _ from Nat.le_trans LL_c21.out bc22.size)
          have JY_c22 := (show Hid _ from ic22)
          have SS_c22 := (show Hid _ from sdec VA_c22.out VB_c22.out)
          clear bc22 ic22
          go_wp2_with fail
          refine hK.out _ _ SS_c22.out (fun hHeld => ?_)
          try simp only [Act.put, List.setIfInBounds_toArray, List.set_cons_zero, List.set_cons_succ]
          clear hK K hHeld
          have HXY : Hid (xx ≠ yy) := (by have := EXVYV.out; omega : xx ≠ yy)
          obtain ⟨mx, ax, nx, kx, rfl, _⟩ := JX_c22.out.form
          obtain ⟨my, ay, ny, ky, rfl, _⟩ := JY_c22.out.form
          refine wpAnyH_ready (rs := [6]) (by kernel_rfl) (by simp) ?_
          refine AllReadyH.cons (by exact rfl) (fun K hK => ?_) AllReadyH.nil
          refine stAn (by rfl) (by rfl) 46 _ _ (by rfl) xx (by rfl) [.bool false, .slice none 0 0] [.bool mx, .slice ax nx kx] (by rfl) 46 XV_c22.out infoW rfl (il_one _ _ _ _) ?_
          intro w8 v8 u8
          have XV8 := (show Hid _ from v8)
          have YV8 := (show Hid _ from YV_c22.out.upd u8 (by have := HXY.out; omega))
          have JX8 := (show Hid _ from JX_c22.out.upd u8 XV_c22.out (by decide))
          have JY8 := (show Hid _ from JY_c22.out.upd u8 XV_c22.out (by decide))
          have VA8 := (show Hid _ from VA_c22.out.upd u8 (by have := NXV.out; omega))
          have VB8 := (show Hid _ from VB_c22.out.upd u8 (by have := NXV.out; omega))
          have VR8 := (show Hid _ from VR_c22.out.upd u8 (by have := NXV.out; omega))
          have BB8 := (show Hid _ from u8.bel BB_c22.out (by have := NXV.out; have := HP.out; omega))
          have SS8 := (show Hid _ from sdec VA8.out VB8.out)
          clear v8 u8
          refine hK.out _ _ SS8.out (fun hHeld => ?_)
          clear hK K hHeld
          refine wpAnyH_ready (rs := [7]) (by kernel_rfl) (by simp) ?_
          refine AllReadyH.cons (by exact rfl) (fun K hK => ?_) AllReadyH.nil
          refine stAn (by rfl) (by rfl) 46 _ _ (by rfl) yy (by rfl) [.bool false, .slice none 0 0] [.bool my, .slice ay ny ky] (by rfl) 46 YV8.out infoW rfl (il_one _ _ _ _) ?_
          intro w9 v9 u9
          have XV9 := (show Hid _ from XV8.out.upd u9 (by have := HXY.out; omega))
          have YV9 := (show Hid _ from v9)
          have JX9 := (show Hid _ from JX8.out.upd u9 YV8.out (by decide))
          have JY9 := (show Hid _ from JY8.out.upd u9 YV8.out (by decide))
          have VA9 := (show Hid _ from VA8.out.upd u9 (by have := NYV.out; omega))
          have VB9 := (show Hid _ from VB8.out.upd u9 (by have := NYV.out; omega))
          have VR9 := (show Hid _ from VR8.out.upd u9 (by have := NYV.out; omega))
          have BB9 := (show Hid _ from u9.bel BB8.out (by have := NYV.out; have := HP.out; omega))
          refine hK.out _ _ (sdec VA9.out VB9.out) (fun hHeld => ?_)
          clear hK K hHeld v9 u9
          refine wpAnyH_done (by kernel_rfl) ?_ _
          refine NoPanic.normal ?_
          go_wp2_with fail
          go_meet
          exact ⟨xx, yy, mx, ax, nx, kx, my, ay, ny, ky, rfl, rfl, XV9, JX9, YV9, JY9, VA9, VB9, VR9, BB9, ⟨NXV.out, NYV.out⟩⟩
      · go_simp
        have VA_c23 := (show Hid _ from VA_c17.out.alloc (.cells ([.bool false, .slice none 0 0] : List Value).toArray 46))
        have VB_c23 := (show Hid _ from VB_c17.out.alloc (.cells ([.bool false, .slice none 0 0] : List Value).toArray 46))
        have VR_c23 := (show Hid _ from VR_c17.out.alloc (.cells ([.bool false, .slice none 0 0] : List Value).toArray 46))
        have XV_c23 := (show Hid _ from XV_c17.out.alloc (.cells ([.bool false, .slice none 0 0] : List Value).toArray 46))
        have BB_c23 := (show Hid _ from BB_c17.out.alloc BB_c17.out.size (.cells ([.bool false, .slice none 0 0] : List Value).toArray 46))
        have LL_c23 := (show Hid _ from Nat.le_trans LL_c17.out (by simp : wc17.heap.size ≤ (wc17.alloc (.cells ([.bool false, .slice none 0 0] : List Value).toArray 46)).heap.size))
        have YV_c23 := (show Hid _ from va_new wc17 [.bool false, .slice none 0 0] 46)
        have NYV : Hid (p + 1 + 1 < wc17.heap.size) := LL_c17.out
        have EXVYV : Hid (xx < wc17.heap.size) := XV_c17.out.lt
        have SS_c23 := (show Hid _ from sdec VA_c23.out VB_c23.out)
        refine hK.out _ _ SS_c23.out (fun hHeld => ?_)
        try simp only [Act.put, List.setIfInBounds_toArray, List.set_cons_zero, List.set_cons_succ]
        clear hK K hHeld
        change wpAnyH _ _ _ _ _ _ _ _ (wc17.alloc (.cells ([.bool false, .slice none 0 0] : List Value).toArray 46))
        generalize wc17.alloc (.cells ([.bool false, .slice none 0 0] : List Value).toArray 46) = wc23 at *
        generalize wc17.heap.size = yy at *
        refine wpAnyH_ready (rs := [1]) (by kernel_rfl) (by simp) ?_
        refine AllReadyH.cons (by exact rfl) (fun K hK => ?_) AllReadyH.nil
        go_simp
        refine (coef_ok ca sa _ IA.out).mono ?_
        rintro e wc24 ⟨⟨rx, rfl, ic24⟩, bc24⟩
        have VA_c24 := (show Hid _ from VA_c23.out.step bc24)
        have VB_c24 := (show Hid _ from VB_c23.out.step bc24)
        have VR_c24 := (show Hid _ from VR_c23.out.step bc24)
        have XV_c24 := (show Hid _ from XV_c23.out.step bc24)
        have YV_c24 := (show Hid _ from YV_c23.out.step bc24)
        have BB_c24 := (show Hid _ from BB_c23.out.trans (bc24.mono BB_c23.out.size))
        have LL_c24 := (show Hid _ from Nat.le_trans LL_c23.out bc24.size)
        have JX_c24 := (show Hid _ from ic24)
        have SS_c24 := (show Hid _ from sdec VA_c24.out VB_c24.out)
        clear bc24 ic24
        go_wp2_with fail
        refine hK.out _ _ SS_c24.out (fun hHeld => ?_)
        try simp only [Act.put, List.setIfInBounds_toArray, List.set_cons_zero, List.set_cons_succ]
        clear hK K hHeld
        refine wpAnyH_ready (rs := [3]) (by kernel_rfl) (by simp) ?_
        refine AllReadyH.cons (by exact rfl) (fun K hK => ?_) AllReadyH.nil
        go_simp
        refine (coef_ok cb sb _ IB.out).mono ?_
        rintro e wc25 ⟨⟨ry, rfl, ic25⟩, bc25⟩
        have VA_c25 := (show Hid _ from VA_c24.out.step bc25)
        have VB_c25 := (show Hid _ from VB_c24.out.step bc25)
        have VR_c25 := (show Hid _ from VR_c24.out.step bc25)
        have XV_c25 := (show Hid _ from XV_c24.out.step bc25)
        have YV_c25 := (show Hid _ from YV_c24.out.step bc25)
        have JX_c25 := (show Hid _ from JX_c24.out.step bc25)
        have BB_c25 := (show Hid _ from BB_c24.out.trans (bc25.mono BB_c24.out.size))
        have LL_c25 := (show Hid _ from Nat.le_trans LL_c24.out bc25.size)
        have JY_c25 := (show Hid _ from ic25)
        have SS_c25 := (show Hid _ from sdec VA_c25.out VB_c25.out)
        clear bc25 ic25
        go_wp2_with fail
        refine hK.out _ _ SS_c25.out (fun hHeld => ?_)
        try simp only [Act.put, List.setIfInBounds_toArray, List.set_cons_zero, List.set_cons_succ]
        clear hK K hHeld
        have HXY : Hid (xx ≠ yy) := (by have := EXVYV.out; omega : xx ≠ yy)
        obtain ⟨mx, ax, nx, kx, rfl, _⟩ := JX_c25.out.form
        obtain ⟨my, ay, ny, ky, rfl, _⟩ := JY_c25.out.form
        refine wpAnyH_ready (rs := [6]) (by kernel_rfl) (by simp) ?_
        refine AllReadyH.cons (by exact rfl) (fun K hK => ?_) AllReadyH.nil
        refine stAn (by rfl) (by rfl) 46 _ _ (by rfl) xx (by rfl) [.bool false, .slice none 0 0] [.bool mx, .slice ax nx kx] (by rfl) 46 XV_c25.out infoW rfl (il_one _ _ _ _) ?_
        intro w8 v8 u8
        have XV8 := (show Hid _ from v8)
        have YV8 := (show Hid _ from YV_c25.out.upd u8 (by have := HXY.out; omega))
        have JX8 := (show Hid _ from JX_c25.out.upd u8 XV_c25.out (by decide))
        have JY8 := (show Hid _ from JY_c25.out.upd u8 XV_c25.out (by decide))
        have VA8 := (show Hid _ from VA_c25.out.upd u8 (by have := NXV.out; omega))
        have VB8 := (show Hid _ from VB_c25.out.upd u8 (by have := NXV.out; omega))
        have VR8 := (show Hid _ from VR_c25.out.upd u8 (by have := NXV.out; omega))
        have BB8 := (show Hid _ from u8.bel BB_c25.out (by have := NXV.out; have := HP.out; omega))
        have SS8 := (show Hid _ from sdec VA8.out VB8.out)
        clear v8 u8
        refine hK.out _ _ SS8.out (fun hHeld => ?_)
        clear hK K hHeld
        refine wpAnyH_ready (rs := [7]) (by kernel_rfl) (by simp) ?_
        refine AllReadyH.cons (by exact rfl) (fun K hK => ?_) AllReadyH.nil
        refine stAn (by rfl) (by rfl) 46 _ _ (by rfl) yy (by rfl) [.bool false, .slice none 0 0] [.bool my, .slice ay ny ky] (by rfl) 46 YV8.out infoW rfl (il_one _ _ _ _) ?_
        intro w9 v9 u9
        have XV9 := (show Hid _ from XV8.out.upd u9 (by have := HXY.out; omega))
        have YV9 := (show Hid _ from v9)
        have JX9 := (show Hid _ from JX8.out.upd u9 YV8.out (by decide))
        have JY9 := (show Hid _ from JY8.out.upd u9 YV8.out (by decide))
        have VA9 := (show Hid _ from VA8.out.upd u9 (by have := NYV.out; omega))
        have VB9 := (show Hid _ from VB8.out.upd u9 (by have := NYV.out; omega))
        have VR9 := (show Hid _ from VR8.out.upd u9 (by have := NYV.out; omega))
        have BB9 := (show Hid _ from u9.bel BB8.out (by have := NYV.out; have := HP.out; omega))
        refine hK.out _ _ (sdec VA9.out VB9.out) (fun hHeld => ?_)
        clear hK K hHeld v9 u9
        refine wpAnyH_done (by kernel_rfl) ?_ _
        refine NoPanic.normal ?_
        go_wp2_with fail
        go_meet
        exact ⟨xx, yy, mx, ax, nx, kx, my, ay, ny, ky, rfl, rfl, XV9, JX9, YV9, JY9, VA9, VB9, VR9, BB9, ⟨NXV.out, NYV.out⟩⟩
    · go_simp
      have VA_c26 := (show Hid _ from VA_x.out.alloc (.cells ([.bool false, .slice none 0 0] : List Value).toArray 46))
      have VB_c26 := (show Hid _ from VB_x.out.alloc (.cells ([.bool false, .slice none 0 0] : List Value).toArray 46))
      have VR_c26 := (show Hid _ from VR_x.out.alloc (.cells ([.bool false, .slice none 0 0] : List Value).toArray 46))
      have BB_c26 := (show Hid _ from BB_x.out.alloc BB_x.out.size (.cells ([.bool false, .slice none 0 0] : List Value).toArray 46))
      have LL_c26 := (show Hid _ from Nat.le_trans LL_x.out (by simp : wx.heap.size ≤ (wx.alloc (.cells ([.bool false, .slice none 0 0] : List Value).toArray 46)).heap.size))
      have YV_c26 := (show Hid _ from va_new wx [.bool false, .slice none 0 0] 46)
      have NYV : Hid (p + 1 + 1 < wx.heap.size) := LL_x.out
      have SS_c26 := (show Hid _ from sdec VA_c26.out VB_c26.out)
      refine hK.out _ _ SS_c26.out (fun hHeld => ?_)
      try simp only [Act.put, List.setIfInBounds_toArray, List.set_cons_zero, List.set_cons_succ]
      clear hK K hHeld
      change wpAnyH _ _ _ _ _ _ _ _ (wx.alloc (.cells ([.bool false, .slice none 0 0] : List Value).toArray 46))
      generalize wx.alloc (.cells ([.bool false, .slice none 0 0] : List Value).toArray 46) = wc26 at *
      generalize wx.heap.size = yy at *
      refine wpAnyH_ready (rs := [1, 4]) (by kernel_rfl) (by simp) ?_
      refine AllReadyH.cons (by exact rfl) (fun K hK => ?_) (AllReadyH.cons (by exact rfl) (fun K hK => ?_) AllReadyH.nil)
      · go_simp
        refine (coef_ok ca sa _ IA.out).mono ?_
        rintro e wc27 ⟨⟨rx, rfl, ic27⟩, bc27⟩
        have VA_c27 := (show Hid _ from VA_c26.out.step bc27)
        have VB_c27 := (show Hid _ from VB_c26.out.step bc27)
        have VR_c27 := (show Hid _ from VR_c26.out.step bc27)
        have YV_c27 := (show Hid _ from YV_c26.out.step bc27)
        have BB_c27 := (show Hid _ from BB_c26.out.trans (bc27.mono BB_c26.out.size))
        have LL_c27 := (show Hid _ from Nat.le_trans LL_c26.out bc27.size)
        have JX_c27 := (show Hid _ from ic27)
        have SS_c27 := (show Hid _ from sdec VA_c27.out VB_c27.out)
        clear bc27 ic27
        go_wp2_with fail
        refine hK.out _ _ SS_c27.out (fun hHeld => ?_)
        try simp only [Act.put, List.setIfInBounds_toArray, List.set_cons_zero, List.set_cons_succ]
        clear hK K hHeld
        refine wpAnyH_ready (rs := [3, 4]) (by kernel_rfl) (by simp) ?_
        refine AllReadyH.cons (by exact rfl) (fun K hK => ?_) (AllReadyH.cons (by exact rfl) (fun K hK => ?_) AllReadyH.nil)
        · go_simp
          refine (coef_ok cb sb _ IB.out).mono ?_
          rintro e wc28 ⟨⟨ry, rfl, ic28⟩, bc28⟩
          have VA_c28 := (show Hid _ from VA_c27.out.step bc28)
          have VB_c28 := (show Hid _ from VB_c27.out.step bc28)
          have VR_c28 := (show Hid _ from VR_c27.out.step bc28)
          have YV_c28 := (show Hid _ from YV_c27.out.step bc28)
          have JX_c28 := (show Hid _ from JX_c27.out.step bc28)
          have BB_c28 := (show Hid _ from BB_c27.out.trans (bc28.mono BB_c27.out.size))
          have LL_c28 := (show Hid _ from Nat.le_trans LL_c27.out bc28.size)
          have JY_c28 := (show Hid _ from ic28)
          have SS_c28 := (show Hid _ from sdec VA_c28.out VB_c28.out)
          clear bc28 ic28
          go_wp2_with fail
          refine hK.out _ _ SS_c28.out (fun hHeld => ?_)
          try simp only [Act.put, List.setIfInBounds_toArray, List.set_cons_zero, List.set_cons_succ]
          clear hK K hHeld
          refine wpAnyH_ready (rs := [4]) (by kernel_rfl) (by simp) ?_
          refine AllReadyH.cons (by exact rfl) (fun K hK => ?_) AllReadyH.nil
          go_simp
          have VA_c29 := (show Hid _ from VA_c28.out.alloc (.cells ([.bool false, .slice none 0 0] : List Value).toArray 46))
          have VB_c29 := (show Hid _ from VB_c28.out.alloc (.cells ([.bool false, .slice none 0 0] : List Value).toArray 46))
          have VR_c29 := (show Hid _ from VR_c28.out.alloc (.cells ([.bool false, .slice none 0 0] : List Value).toArray 46))
          have YV_c29 := (show Hid _ from YV_c28.out.alloc (.cells ([.bool false, .slice none 0 0] : List Value).toArray 46))
          have JX_c29 := (show Hid _ from JX_c28.out.alloc (.cells ([.bool false, .slice none 0 0] : List Value).toArray 46))
          have JY_c29 := (show Hid _ from JY_c28.out.alloc (.cells ([.bool false, .slice none 0 0] : List Value).toArray 46))
          have BB_c29 := (show Hid _ from BB_c28.out.alloc BB_c28.out.size (.cells ([.bool false, .slice none 0 0] : List Value).toArray 46))
          have LL_c29 := (show Hid _ from Nat.le_trans LL_c28.out (by simp : wc28.heap.size ≤ (wc28.alloc (.cells ([.bool false, .slice none 0 0] : List Value).toArray 46)).heap.size))
          have XV_c29 := (show Hid _ from va_new wc28 [.bool false, .slice none 0 0] 46)
          have NXV : Hid (p + 1 + 1 < wc28.heap.size) := LL_c28.out
          have EYVXV : Hid (yy < wc28.heap.size) := YV_c28.out.lt
          have SS_c29 := (show Hid _ from sdec VA_c29.out VB_c29.out)
          refine hK.out _ _ SS_c29.out (fun hHeld => ?_)
          try simp only [Act.put, List.setIfInBounds_toArray, List.set_cons_zero, List.set_cons_succ]
          clear hK K hHeld
          change wpAnyH _ _ _ _ _ _ _ _ (wc28.alloc (.cells ([.bool false, .slice none 0 0] : List Value).toArray 46))
          generalize wc28.alloc (.cells ([.bool false, .slice none 0 0] : List Value).toArray 46) = wc29 at *
          generalize wc28.heap.size = xx at *
          have HXY : Hid (xx ≠ yy) := (by have := EYVXV.out; omega : xx ≠ yy)
          obtain ⟨mx, ax, nx, kx, rfl, _⟩ := JX_c29.out.form
          obtain ⟨my, ay, ny, ky, rfl, _⟩ := JY_c29.out.form
          refine wpAnyH_ready (rs := [6]) (by kernel_rfl) (by simp) ?_
          refine AllReadyH.cons (by exact rfl) (fun K hK => ?_) AllReadyH.nil
          refine stAn (by rfl) (by rfl) 46 _ _ (by rfl) xx (by rfl) [.bool false, .slice none 0 0] [.bool mx, .slice ax nx kx] (by rfl) 46 XV_c29.out infoW rfl (il_one _ _ _ _) ?_
          intro w8 v8 u8
          have XV8 := (show Hid _ from v8)
          have YV8 := (show Hid _ from YV_c29.out.upd u8 (by have := HXY.out; omega))
          have JX8 := (show Hid _ from JX_c29.out.upd u8 XV_c29.out (by decide))
          have JY8 := (show Hid _ from JY_c29.out.upd u8 XV_c29.out (by decide))
          have VA8 := (show Hid _ from VA_c29.out.upd u8 (by have := NXV.out; omega))
          have VB8 := (show Hid _ from VB_c29.out.upd u8 (by have := NXV.out; omega))
          have VR8 := (show Hid _ from VR_c29.out.upd u8 (by have := NXV.out; omega))
          have BB8 := (show Hid _ from u8.bel BB_c29.out (by have := NXV.out; have := HP.out; omega))
          have SS8 := (show Hid _ from sdec VA8.out VB8.out)
          clear v8 u8
          refine hK.out _ _ SS8.out (fun hHeld => ?_)
          clear hK K hHeld
          refine wpAnyH_ready (rs := [7]) (by kernel_rfl) (by simp) ?_
          refine AllReadyH.cons (by exact rfl) (fun K hK => ?_) AllReadyH.nil
          refine stAn (by rfl) (by rfl) 46 _ _ (by rfl) yy (by rfl) [.bool false, .slice none 0 0] [.bool my, .slice ay ny ky] (by rfl) 46 YV8.out infoW rfl (il_one _ _ _ _) ?_
          intro w9 v9 u9
          have XV9 := (show Hid _ from XV8.out.upd u9 (by have := HXY.out; omega))
          have YV9 := (show Hid _ from v9)
          have JX9 := (show Hid _ from JX8.out.upd u9 YV8.out (by decide))
          have JY9 := (show Hid _ from JY8.out.upd u9 YV8.out (by decide))
          have VA9 := (show Hid _ from VA8.out.upd u9 (by have := NYV.out; omega))
          have VB9 := (show Hid _ from VB8.out.upd u9 (by have := NYV.out; omega))
          have VR9 := (show Hid _ from VR8.out.upd u9 (by have := NYV.out; omega))
          have BB9 := (show Hid _ from u9.bel BB8.out (by have := NYV.out; have := HP.out; omega))
          refine hK.out _ _ (sdec VA9.out VB9.out) (fun hHeld => ?_)
          clear hK K hHeld v9 u9
          refine wpAnyH_done (by kernel_rfl) ?_ _
          refine NoPanic.normal ?_
          go_wp2_with fail
          go_meet
          exact ⟨xx, yy, mx, ax, nx, kx, my, ay, ny, ky, rfl, rfl, XV9, JX9, YV9, JY9, VA9, VB9, VR9, BB9, ⟨NXV.out, NYV.out⟩⟩
        · go_simp
          have VA_c30 := (show Hid _ from VA_c27.out.alloc (.cells ([.bool false, .slice none 0 0] : List Value).toArray 46))
          have VB_c30 := (show Hid _ from VB_c27.out.alloc (.cells ([.bool false, .slice none 0 0] : List Value).toArray 46))
          have VR_c30 := (show Hid _ from VR_c27.out.alloc (.cells ([.bool false, .slice none 0 0] : List Value).toArray 46))
          have YV_c30 := (show Hid _ from YV_c27.out.alloc (.cells ([.bool false, .slice none 0 0] : List Value).toArray 46))
          have JX_c30 := (show Hid _ from JX_c27.out.alloc (.cells ([.bool false, .slice none 0 0] : List Value).toArray 46))
          have BB_c30 := (show Hid _ from BB_c27.out.alloc BB_c27.out.size (.cells ([.bool false, .slice none 0 0] : List Value).toArray 46))
          have LL_c30 := (show Hid _ from Nat.le_trans LL_c27.out (by simp : wc27.heap.size ≤ (wc27.alloc (.cells ([.bool false, .slice none 0 0] : List Value).toArray 46)).heap.size))
          have XV_c30 := (show Hid _ from va_new wc27 [.bool false, .slice none 0 0] 46)
          have NXV : Hid (p + 1 + 1 < wc27.heap.size) := LL_c27.out
          have EYVXV : Hid (yy < wc27.heap.size) := YV_c27.out.lt
          have SS_c30 := (show Hid _ from sdec VA_c30.out VB_c30.out)
          refine hK.out _ _ SS_c30.out (fun hHeld => ?_)
          try simp only [Act.put, List.setIfInBounds_toArray, List.set_cons_zero, List.set_cons_succ]
          clear hK K hHeld
          change wpAnyH _ _ _ _ _ _ _ _ (wc27.alloc (.cells ([.bool false, .slice none 0 0] : List Value).toArray 46))
          generalize wc27.alloc (.cells ([.bool false, .slice none 0 0] : List Value).toArray 46) = wc30 at *
          generalize wc27.heap.size = xx at *
          refine wpAnyH_ready (rs := [3]) (by kernel_rfl) (by simp) ?_
          refine AllReadyH.cons (by exact rfl) (fun K hK => ?_) AllReadyH.nil
          go_simp
          refine (coef_ok cb sb _ IB.out).mono ?_
          rintro e wc31 ⟨⟨ry, rfl, ic31⟩, bc31⟩
          have VA_c31 := (show Hid _ from VA_c30.out.step bc31)
          have VB_c31 := (show Hid _ from VB_c30.out.step bc31)
          have VR_c31 := (show Hid _ from VR_c30.out.step bc31)
          have YV_c31 := (show Hid _ from YV_c30.out.step bc31)
          have JX_c31 := (show Hid _ from JX_c30.out.step bc31)
          have XV_c31 := (show Hid _ from XV_c30.out.step bc31)
          have BB_c31 := (show Hid _ from BB_c30.out.trans (bc31.mono BB_c30.out.size))
          have LL_c31 := (show Hid _ from Nat.le_trans LL_c30.out bc31.size)
          have JY_c31 := (show Hid _ from ic31)
          have SS_c31 := (show Hid _ from sdec VA_c31.out VB_c31.out)
          clear bc31 ic31
          go_wp2_with fail
          refine hK.out _ _ SS_c31.out (fun hHeld => ?_)
          try simp only [Act.put, List.setIfInBounds_toArray, List.set_cons_zero, List.set_cons_succ]
          clear hK K hHeld
          have HXY : Hid (xx ≠ yy) := (by have := EYVXV.out; omega : xx ≠ yy)
          obtain ⟨mx, ax, nx, kx, rfl, _⟩ := JX_c31.out.form
          obtain ⟨my, ay, ny, ky, rfl, _⟩ := JY_c31.out.form
          refine wpAnyH_ready (rs := [6]) (by kernel_rfl) (by simp) ?_
          refine AllReadyH.cons (by exact rfl) (fun K hK => ?_) AllReadyH.nil
          refine stAn (by rfl) (by rfl) 46 _ _ (by rfl) xx (by rfl) [.bool false, .slice none 0 0] [.bool mx, .slice ax nx kx] (by rfl) 46 XV_c31.out infoW rfl (il_one _ _ _ _) ?_
          intro w8 v8 u8
          have XV8 := (show Hid _ from v8)
          have YV8 := (show Hid _ from YV_c31.out.upd u8 (by have := HXY.out; omega))
          have JX8 := (show Hid _ from JX_c31.out.upd u8 XV_c31.out (by decide))
          have JY8 := (show Hid _ from JY_c31.out.upd u8 XV_c31.out (by decide))
          have VA8 := (show Hid _ from VA_c31.out.upd u8 (by have := NXV.out; omega))
          have VB8 := (show Hid _ from VB_c31.out.upd u8 (by have := NXV.out; omega))
          have VR8 := (show Hid _ from VR_c31.out.upd u8 (by have := NXV.out; omega))
          have BB8 := (show Hid _ from u8.bel BB_c31.out (by have := NXV.out; have := HP.out; omega))
          have SS8 := (show Hid _ from sdec VA8.out VB8.out)
          clear v8 u8
          refine hK.out _ _ SS8.out (fun hHeld => ?_)
          clear hK K hHeld
          refine wpAnyH_ready (rs := [7]) (by kernel_rfl) (by simp) ?_
          refine AllReadyH.cons (by exact rfl) (fun K hK => ?_) AllReadyH.nil
          refine stAn (by rfl) (by rfl) 46 _ _ (by rfl) yy (by rfl) [.bool false, .slice none 0 0] [.bool my, .slice ay ny ky] (by rfl) 46 YV8.out infoW rfl (il_one _ _ _ _) ?_
          intro w9 v9 u9
          have XV9 := (show Hid _ from XV8.out.upd u9 (by have := HXY.out; omega))
          have YV9 := (show Hid _ from v9)
          have JX9 := (show Hid _ from JX8.out.upd u9 YV8.out (by decide))
          have JY9 := (show Hid _ from JY8.out.upd u9 YV8.out (by decide))
          have VA9 := (show Hid _ from VA8.out.upd u9 (by have := NYV.out; omega))
          have VB9 := (show Hid _ from VB8.out.upd u9 (by have := NYV.out; omega))
          have VR9 := (show Hid _ from VR8.out.upd u9 (by have := NYV.out; omega))
          have BB9 := (show Hid _ from u9.bel BB8.out (by have := NYV.out; have := HP.out; omega))
          refine hK.out _ _ (sdec VA9.out VB9.out) (fun hHeld => ?_)
          clear hK K hHeld v9 u9
          refine wpAnyH_done (by kernel_rfl) ?_ _
          refine NoPanic.normal ?_
          go_wp2_with fail
          go_meet
          exact ⟨xx, yy, mx, ax, nx, kx, my, ay, ny, ky, rfl, rfl, XV9, JX9, YV9, JY9, VA9, VB9, VR9, BB9, ⟨NXV.out, NYV.out⟩⟩
      · go_simp
        have VA_c32 := (show Hid _ from VA_c26.out.alloc (.cells ([.bool false, .slice none 0 0] : List Value).toArray 46))
        have VB_c32 := (show Hid _ from VB_c26.out.alloc (.cells ([.bool false, .slice none 0 0] : List Value).toArray 46))
        have VR_c32 := (show Hid _ from VR_c26.out.alloc (.cells ([.bool false, .slice none 0 0] : List Value).toArray 46))
        have YV_c32 := (show Hid _ from YV_c26.out.alloc (.cells ([.bool false, .slice none 0 0] : List Value).toArray 46))
        have BB_c32 := (show Hid _ from BB_c26.out.alloc BB_c26.out.size (.cells ([.bool false, .slice none 0 0] : List Value).toArray 46))
        have LL_c32 := (show Hid _ from Nat.le_trans LL_c26.out (by simp : wc26.heap.size ≤ (wc26.alloc (.cells ([.bool false, .slice none 0 0] : List Value).toArray 46)).heap.size))
        have XV_c32 := (show Hid _ from va_new wc26 [.bool false, .slice none 0 0] 46)
        have NXV : Hid (p + 1 + 1 < wc26.heap.size) := LL_c26.out
        have EYVXV : Hid (yy < wc26.heap.size) := YV_c26.out.lt
        have SS_c32 := (show Hid _ from sdec VA_c32.out VB_c32.out)
        refine hK.out _ _ SS_c32.out (fun hHeld => ?_)
        try simp only [Act.put, List.setIfInBounds_toArray, List.set_cons_zero, List.set_cons_succ]
        clear hK K hHeld
        change wpAnyH _ _ _ _ _ _ _ _ (wc26.alloc (.cells ([.bool false, .slice none 0 0] : List Value).toArray 46))
        generalize wc26.alloc (.cells ([.bool false, .slice none 0 0] : List Value).toArray 46) = wc32 at *
        generalize wc26.heap.size = xx at *
        refine wpAnyH_ready (rs := [1]) (by kernel_rfl) (by simp) ?_
        refine AllReadyH.cons (by exact rfl) (fun K hK => ?_) AllReadyH.nil
        go_simp
        refine (coef_ok ca sa _ IA.out).mono ?_
        rintro e wc33 ⟨⟨rx, rfl, ic33⟩, bc33⟩
        have VA_c33 := (show Hid _ from VA_c32.out.step bc33)
        have VB_c33 := (show Hid _ from VB_c32.out.step bc33)
        have VR_c33 := (show Hid _ from VR_c32.out.step bc33)
        have YV_c33 := (show Hid _ from YV_c32.out.step bc33)
        have XV_c33 := (show Hid _ from XV_c32.out.step bc33)
        have BB_c33 := (show Hid _ from BB_c32.out.trans (bc33.mono BB_c32.out.size))
        have LL_c33 := (show Hid _ from Nat.le_trans LL_c32.out bc33.size)
        have JX_c33 := (show Hid _ from ic33)
        have SS_c33 := (show Hid _ from sdec VA_c33.out VB_c33.out)
        clear bc33 ic33
        go_wp2_with fail
        refine hK.out _ _ SS_c33.out (fun hHeld => ?_)
        try simp only [Act.put, List.setIfInBounds_toArray, List.set_cons_zero, List.set_cons_succ]
        clear hK K hHeld
        refine wpAnyH_ready (rs := [3]) (by kernel_rfl) (by simp) ?_
        refine AllReadyH.cons (by exact rfl) (fun K hK => ?_) AllReadyH.nil
        go_simp
        refine (coef_ok cb sb _ IB.out).mono ?_
        rintro e wc34 ⟨⟨ry, rfl, ic34⟩, bc34⟩
        have VA_c34 := (show Hid _ from VA_c33.out.step bc34)
        have VB_c34 := (show Hid _ from VB_c33.out.step bc34)
        have VR_c34 := (show Hid _ from VR_c33.out.step bc34)
        have YV_c34 := (show Hid _ from YV_c33.out.step bc34)
        have XV_c34 := (show Hid _ from XV_c33.out.step bc34)
        have JX_c34 := (show Hid _ from JX_c33.out.step bc34)
        have BB_c34 := (show Hid _ from BB_c33.out.trans (bc34.mono BB_c33.out.size))
        have LL_c34 := (show Hid _ from Nat.le_trans LL_c33.out bc34.size)
        have JY_c34 := (show Hid _ from ic34)
        have SS_c34 := (show Hid _ from sdec VA_c34.out VB_c34.out)
        clear bc34 ic34
        go_wp2_with fail
        refine hK.out _ _ SS_c34.out (fun hHeld => ?_)
        try simp only [Act.put, List.setIfInBounds_toArray, List.set_cons_zero, List.set_cons_succ]
        clear hK K hHeld
        have HXY : Hid (xx ≠ yy) := (by have := EYVXV.out; omega : xx ≠ yy)
        obtain ⟨mx, ax, nx, kx, rfl, _⟩ := JX_c34.out.form
        obtain ⟨my, ay, ny, ky, rfl, _⟩ := JY_c34.out.form
        refine wpAnyH_ready (rs := [6]) (by kernel_rfl) (by simp) ?_
        refine AllReadyH.cons (by exact rfl) (fun K hK => ?_) AllReadyH.nil
        refine stAn (by rfl) (by rfl) 46 _ _ (by rfl) xx (by rfl) [.bool false, .slice none 0 0] [.bool mx, .slice ax nx kx] (by rfl) 46 XV_c34.out infoW rfl (il_one _ _ _ _) ?_
        intro w8 v8 u8
        have XV8 := (show Hid _ from v8)
        have YV8 := (show Hid _ from YV_c34.out.upd u8 (by have := HXY.out; omega))
        have JX8 := (show Hid _ from JX_c34.out.upd u8 XV_c34.out (by decide))
        have JY8 := (show Hid _ from JY_c34.out.upd u8 XV_c34.out (by decide))
        have VA8 := (show Hid _ from VA_c34.out.upd u8 (by have := NXV.out; omega))
        have VB8 := (show Hid _ from VB_c34.out.upd u8 (by have := NXV.out; omega))
        have VR8 := (show Hid _ from VR_c34.out.upd u8 (by have := NXV.out; omega))
        have BB8 := (show Hid _ from u8.bel BB_c34.out (by have := NXV.out; have := HP.out; omega))
        have SS8 := (show Hid _ from sdec VA8.out VB8.out)
        clear v8 u8
        refine hK.out _ _ SS8.out (fun hHeld => ?_)
        clear hK K hHeld
        refine wpAnyH_ready (rs := [7]) (by kernel_rfl) (by simp) ?_
        refine AllReadyH.cons (by exact rfl) (fun K hK => ?_) AllReadyH.nil
        refine stAn (by rfl) (by rfl) 46 _ _ (by rfl) yy (by rfl) [.bool false, .slice none 0 0] [.bool my, .slice ay ny ky] (by rfl) 46 YV8.out infoW rfl (il_one _ _ _ _) ?_
        intro w9 v9 u9
        have XV9 := (show Hid _ from XV8.out.upd u9 (by have := HXY.out; omega))
        have YV9 := (show Hid _ from v9)
        have JX9 := (show Hid _ from JX8.out.upd u9 YV8.out (by decide))
        have JY9 := (show Hid _ from JY8.out.upd u9 YV8.out (by decide))
        have VA9 := (show Hid _ from VA8.out.upd u9 (by have := NYV.out; omega))
        have VB9 := (show Hid _ from VB8.out.upd u9 (by have := NYV.out; omega))
        have VR9 := (show Hid _ from VR8.out.upd u9 (by have := NYV.out; omega))
        have BB9 := (show Hid _ from u9.bel BB8.out (by have := NYV.out; have := HP.out; omega))
        refine hK.out _ _ (sdec VA9.out VB9.out) (fun hHeld => ?_)
        clear hK K hHeld v9 u9
        refine wpAnyH_done (by kernel_rfl) ?_ _
        refine NoPanic.normal ?_
        go_wp2_with fail
        go_meet
        exact ⟨xx, yy, mx, ax, nx, kx, my, ay, ny, ky, rfl, rfl, XV9, JX9, YV9, JY9, VA9, VB9, VR9, BB9, ⟨NXV.out, NYV.out⟩⟩
  obtain ⟨xx, yy, mx, ax, nx, kx, my, ay, ny, ky, rfl, rfl, XV, JX, YV, JY, VA9, VB9, VR9, BB9, NN⟩ := hcut
  go_wp2_with (refine ldA rfl 46 _ rfl yy (by rfl) [.bool my, .slice ay ny ky] _ YV.out _ Try.underlying46 rfl infoW ?_)
  refine (sign_in _ cb _ JY.out).mono ?_
  rintro e w6 ⟨rfl, b6⟩
  have XV := (show Hid _ from XV.out.step b6)
  have JX := (show Hid _ from JX.out.step b6)
  have YV := (show Hid _ from YV.out.step b6)
  have JY := (show Hid _ from JY.out.step b6)
  have VA9 := (show Hid _ from VA9.out.step b6)
  have VB9 := (show Hid _ from VB9.out.step b6)
  have VR9 := (show Hid _ from VR9.out.step b6)
  have BB9 := (show Hid _ from BB9.out.trans (b6.mono BB9.out.size))
  clear b6
  by_cases h0 : cb = 0
  · have es : sgn cb = 0 := (sgn_zero cb).2 h0
    rw [es]
    have H0 := (show Hid _ from h0)
    clear es h0
    go_wp2_with (refine stA rfl 24 _ _ rfl (p + 1 + 1) (by rfl) [.int .i64 0, .int .u64 0, .int .i64 0] [.int .i64 0, .int .u64 0, .int .i64 0] (by rfl) 24 VR9.out infoD rfl (dl_one _ _ _) ?_; intro wf vf uf)
    have hld := run_loadVar_row (P := Try.prog) wf (p + 1 + 1) 24 24 _ (0, 0) _ vf.blk Try.underlying24 rfl infoD
    exact bodyPost_ret (v := .tuple #[.agg #[.int .i64 0, .int .u64 0, .int .i64 0], .int .i64 5]) (by simp [results, Try.results5, asAddr, hld]) rfl ⟨Or.inl ⟨H0.out, rfl⟩, uf.bel BB9.out (by have := HP.out; omega)⟩
  have es : (sgn cb == 0) = false := by simpa using fun h => h0 ((sgn_zero cb).1 h)
  have H0 := (show Hid _ from h0)
  have HSG : Hid ((0 < tenS cb (sb + t) → my = false) ∧ (tenS cb (sb + t) < 0 → my = true)) := by
    obtain ⟨m', a', n', c', e', hn, s1, s2⟩ := JY.out.form
    cases e'
    refine ⟨fun h => s1 ?_, fun h => s2 ((tenS_neg cb _).1 h)⟩
    have : ¬ tenS cb (sb + t) < 0 := by omega
    have := mt (tenS_neg cb (sb + t)).2 this
    omega
  have hst : Hid (IntKind.i64.wrap ((sb : Int) + (t : Int)) = (sb : Int) + (t : Int)) := wrapI _ (by omega)
  have HDP : Hid (0 < cb.natAbs * 10 ^ sa) := Nat.mul_pos (by omega) (Nat.pow_pos (by omega))
  clear h0
  go_upto_region 8 with fail
  clear es
  go_cut [12] (fun up wx => ∃ (uu : Nat) (mu : Bool) (au : Option Addr) (nu ku : Nat), up = .pointer (some ⟨uu, 0, none⟩) ∧ Hid (VA wx uu [.bool mu, .slice au nu ku] 46) ∧ Hid (In wx (.agg #[.bool mu, .slice au nu ku]) (ca * tenS cb (sb + t))) ∧ Hid (VA wx yy [.bool my, .slice ay ny ky] 46) ∧ Hid (In wx (.agg #[.bool my, .slice ay ny ky]) cb) ∧ Hid (VA wx p [.int .i64 (dhi ca), .int .u64 (dlo ca), .int .i64 sa] 24) ∧ Hid (VA wx (p + 1) [.int .i64 (dhi cb), .int .u64 (dlo cb), .int .i64 sb] 24) ∧ Hid (VA wx (p + 1 + 1) [.int .i64 0, .int .u64 0, .int .i64 0] 24) ∧ Hid (Below w.heap.size w wx) ∧ Hid (p + 1 + 1 < uu))
  case first =>
    refine wp_region_noPanic ?_
    refine wp_region_held_drew (S := fun w' => (w'.cell? ⟨xx, 0, none⟩ = some (.bool mx) ∧ w'.cell? ⟨xx, 1, none⟩ = some (.slice ax nx kx) ∧ xx < w'.heap.size) ∧ (w'.cell? ⟨yy, 0, none⟩ = some (.bool my) ∧ w'.cell? ⟨yy, 1, none⟩ = some (.slice ay ny ky) ∧ yy < w'.heap.size) ∧ w'.cell? ⟨p + 1, 2, none⟩ = some (.int .i64 sb) ∧ p + 1 < w'.heap.size) (by kernel_rfl) (seight XV.out.drew YV.out.drew VB9.out.drew) (fun hHeld => ?_)
    refine takeD 0 35 (.agg #[.bool mx, .slice ax nx kx]) (by exact rfl) rfl (by kernel_rfl) (by kernel_rfl) (by kernel_rfl) (fun _ _ _ h => h) (Or.inl ⟨by rfl, ?_⟩) (by assumption) ?_
    · intro wq hS
      obtain ⟨⟨h1, h2, h3⟩, ⟨h4, h5, h6⟩, h7, h8⟩ := hS
      go_simp
    try simp only [Act.put, List.setIfInBounds_toArray, List.set_cons_zero, List.set_cons_succ]
    refine takeD 1 36 (.pointer (some ⟨yy, 0, none⟩)) (by exact rfl) rfl (by kernel_rfl) (by kernel_rfl) (by kernel_rfl) (fun _ _ _ h => h) (Or.inl ⟨by rfl, ?_⟩) (by assumption) ?_
    · intro wq hS
      go_simp
    try simp only [Act.put, List.setIfInBounds_toArray, List.set_cons_zero, List.set_cons_succ]
    refine takeD 2 37 (.bool my) (by exact rfl) rfl (by kernel_rfl) (by kernel_rfl) (by kernel_rfl) (fun _ _ _ h => h) (Or.inl ⟨by rfl, ?_⟩) (by assumption) ?_
    · intro wq hS
      obtain ⟨⟨h1, h2, h3⟩, ⟨h4, h5, h6⟩, h7, h8⟩ := hS
      go_simp
    try simp only [Act.put, List.setIfInBounds_toArray, List.set_cons_zero, List.set_cons_succ]
    refine takeD 3 38 (.pointer (some ⟨p + 1, 2, none⟩)) (by exact rfl) rfl (by kernel_rfl) (by kernel_rfl) (by kernel_rfl) (fun _ _ _ h => h) (Or.inl ⟨by rfl, ?_⟩) (by assumption) ?_
    · intro wq hS
      go_simp
    try simp only [Act.put, List.setIfInBounds_toArray, List.set_cons_zero, List.set_cons_succ]
    refine takeD 4 39 (.int .i64 sb) (by exact rfl) rfl (by kernel_rfl) (by kernel_rfl) (by kernel_rfl) (fun _ _ _ h => h) (Or.inl ⟨by rfl, ?_⟩) (by assumption) ?_
    · intro wq hS
      obtain ⟨⟨h1, h2, h3⟩, ⟨h4, h5, h6⟩, h7, h8⟩ := hS
      go_simp
    try simp only [Act.put, List.setIfInBounds_toArray, List.set_cons_zero, List.set_cons_succ]
    refine takeD 5 40 (.int .i64 t) (by exact rfl) rfl (by kernel_rfl) (by kernel_rfl) (by kernel_rfl) (fun _ _ _ h => h) (Or.inl ⟨by rfl, ?_⟩) (by assumption) ?_
    · intro wq hS
      go_simp
    try simp only [Act.put, List.setIfInBounds_toArray, List.set_cons_zero, List.set_cons_succ]
    refine takeD 6 41 (.int .i64 ((sb + t : Nat) : Int)) (by exact rfl) rfl (by kernel_rfl) (by kernel_rfl) (by kernel_rfl) (fun _ _ _ h => h) (Or.inl ⟨by rfl, ?_⟩) (by assumption) ?_
    · intro wq hS
      go_simp
      exact hst.out
    try simp only [Act.put, List.setIfInBounds_toArray, List.set_cons_zero, List.set_cons_succ]
    clear hHeld
    have XV_v := (show Hid _ from XV.out.drew)
    have JX_v := (show Hid _ from JX.out.drew)
    have YV_v := (show Hid _ from YV.out.drew)
    have JY_v := (show Hid _ from JY.out.drew)
    have VA_v := (show Hid _ from VA9.out.drew)
    have VB_v := (show Hid _ from VB9.out.drew)
    have VR_v := (show Hid _ from VR9.out.drew)
    have BB_v := (show Hid _ from BB9.out.drew)
    have LL_v : Hid (p + 1 + 1 < w6.drew.heap.size) := VR_v.out.lt
    have SS_v := (show Hid _ from seight XV_v.out YV_v.out VB_v.out)
    clear XV JX YV JY VA9 VB9 VR9 BB9
    generalize w6.drew = wv at *
    refine wpAnyH_ready (rs := [7, 10]) (by kernel_rfl) (by simp) ?_
    refine AllReadyH.cons (by exact rfl) (fun K hK => ?_) (AllReadyH.cons (by exact rfl) (fun K hK => ?_) AllReadyH.nil)
    · go_simp
      refine (ten_ok (sb + t) _ (by omega)).mono ?_
      rintro e wc35 ⟨⟨u1, rfl, ic35⟩, bc35⟩
      have XV_c35 := (show Hid _ from XV_v.out.step bc35)
      have JX_c35 := (show Hid _ from JX_v.out.step bc35)
      have YV_c35 := (show Hid _ from YV_v.out.step bc35)
      have JY_c35 := (show Hid _ from JY_v.out.step bc35)
      have VA_c35 := (show Hid _ from VA_v.out.step bc35)
      have VB_c35 := (show Hid _ from VB_v.out.step bc35)
      have VR_c35 := (show Hid _ from VR_v.out.step bc35)
      have BB_c35 := (show Hid _ from BB_v.out.trans (bc35.mono BB_v.out.size))
      have LL_c35 := (show Hid _ from Nat.le_trans LL_v.out bc35.size)
      have NT_c35 := (show Hid _ from ic35)
      have SS_c35 := (show Hid _ from seight XV_c35.out YV_c35.out VB_c35.out)
      clear bc35 ic35
      go_wp2_with fail
      refine hK.out _ _ SS_c35.out (fun hHeld => ?_)
      try simp only [Act.put, List.setIfInBounds_toArray, List.set_cons_zero, List.set_cons_succ]
      clear hK K hHeld
      have IT_c35 := (show Hid _ from in_mk (m := my) (z := tenS cb (sb + t)) (by rw [tenS_abs]; exact NT_c35.out) (fun h => HSG.out.1 h) (fun h => HSG.out.2 h))
      obtain ⟨ua, un, uk, rfl⟩ := NT_c35.out.form
      have hHeld := SS_c35.out
      refine takeD 8 43 (.agg #[.bool my, .slice ua un uk]) (by exact rfl) rfl (by kernel_rfl) (by kernel_rfl) (by kernel_rfl) (fun _ _ _ h => h) (Or.inl ⟨by rfl, ?_⟩) (by assumption) ?_
      · intro wq hS
        go_simp
      try simp only [Act.put, List.setIfInBounds_toArray, List.set_cons_zero, List.set_cons_succ]
      clear hHeld
      refine wpAnyH_ready (rs := [9, 10]) (by kernel_rfl) (by simp) ?_
      refine AllReadyH.cons (by exact rfl) (fun K hK => ?_) (AllReadyH.cons (by exact rfl) (fun K hK => ?_) AllReadyH.nil)
      · go_simp
        refine (prod_in _ _ ca (tenS cb (sb + t)) _ JX_c35.out IT_c35.out (inr_mi IA.out) (tenS_mi cb _ (by omega))).mono ?_
        rintro e wc36 ⟨⟨ru, rfl, ic36⟩, bc36⟩
        have XV_c36 := (show Hid _ from XV_c35.out.step bc36)
        have JX_c36 := (show Hid _ from JX_c35.out.step bc36)
        have YV_c36 := (show Hid _ from YV_c35.out.step bc36)
        have JY_c36 := (show Hid _ from JY_c35.out.step bc36)
        have VA_c36 := (show Hid _ from VA_c35.out.step bc36)
        have VB_c36 := (show Hid _ from VB_c35.out.step bc36)
        have VR_c36 := (show Hid _ from VR_c35.out.step bc36)
        have NT_c36 := (show Hid _ from NT_c35.out.step bc36)
        have IT_c36 := (show Hid _ from IT_c35.out.step bc36)
        have BB_c36 := (show Hid _ from BB_c35.out.trans (bc36.mono BB_c35.out.size))
        have LL_c36 := (show Hid _ from Nat.le_trans LL_c35.out bc36.size)
        have JU_c36 := (show Hid _ from ic36)
        have SS_c36 := (show Hid _ from seight XV_c36.out YV_c36.out VB_c36.out)
        clear bc36 ic36
        go_wp2_with fail
        refine hK.out _ _ SS_c36.out (fun hHeld => ?_)
        try simp only [Act.put, List.setIfInBounds_toArray, List.set_cons_zero, List.set_cons_succ]
        clear hK K hHeld
        refine wpAnyH_ready (rs := [10]) (by kernel_rfl) (by simp) ?_
        refine AllReadyH.cons (by exact rfl) (fun K hK => ?_) AllReadyH.nil
        go_simp
        have XV_c37 := (show Hid _ from XV_c36.out.alloc (.cells ([.bool false, .slice none 0 0] : List Value).toArray 46))
        have JX_c37 := (show Hid _ from JX_c36.out.alloc (.cells ([.bool false, .slice none 0 0] : List Value).toArray 46))
        have YV_c37 := (show Hid _ from YV_c36.out.alloc (.cells ([.bool false, .slice none 0 0] : List Value).toArray 46))
        have JY_c37 := (show Hid _ from JY_c36.out.alloc (.cells ([.bool false, .slice none 0 0] : List Value).toArray 46))
        have VA_c37 := (show Hid _ from VA_c36.out.alloc (.cells ([.bool false, .slice none 0 0] : List Value).toArray 46))
        have VB_c37 := (show Hid _ from VB_c36.out.alloc (.cells ([.bool false, .slice none 0 0] : List Value).toArray 46))
        have VR_c37 := (show Hid _ from VR_c36.out.alloc (.cells ([.bool false, .slice none 0 0] : List Value).toArray 46))
        have NT_c37 := (show Hid _ from NT_c36.out.alloc (.cells ([.bool false, .slice none 0 0] : List Value).toArray 46))
        have IT_c37 := (show Hid _ from IT_c36.out.alloc (.cells ([.bool false, .slice none 0 0] : List Value).toArray 46))
        have JU_c37 := (show Hid _ from JU_c36.out.alloc (.cells ([.bool false, .slice none 0 0] : List Value).toArray 46))
        have BB_c37 := (show Hid _ from BB_c36.out.alloc BB_c36.out.size (.cells ([.bool false, .slice none 0 0] : List Value).toArray 46))
        have LL_c37 := (show Hid _ from Nat.le_trans LL_c36.out (by simp : wc36.heap.size ≤ (wc36.alloc (.cells ([.bool false, .slice none 0 0] : List Value).toArray 46)).heap.size))
        have UV_c37 := (show Hid _ from va_new wc36 [.bool false, .slice none 0 0] 46)
        have NUV : Hid (p + 1 + 1 < wc36.heap.size) := LL_c36.out
        have EXVUV : Hid (xx < wc36.heap.size) := XV_c36.out.lt
        have EYVUV : Hid (yy < wc36.heap.size) := YV_c36.out.lt
        have SS_c37 := (show Hid _ from seight XV_c37.out YV_c37.out VB_c37.out)
        refine hK.out _ _ SS_c37.out (fun hHeld => ?_)
        try simp only [Act.put, List.setIfInBounds_toArray, List.set_cons_zero, List.set_cons_succ]
        clear hK K hHeld
        change wpAnyH _ _ _ _ _ _ _ _ (wc36.alloc (.cells ([.bool false, .slice none 0 0] : List Value).toArray 46))
        generalize wc36.alloc (.cells ([.bool false, .slice none 0 0] : List Value).toArray 46) = wc37 at *
        generalize wc36.heap.size = uu at *
        obtain ⟨mu, au, nu, ku, rfl, _⟩ := JU_c37.out.form
        refine wpAnyH_ready (rs := [11]) (by kernel_rfl) (by simp) ?_
        refine AllReadyH.cons (by exact rfl) (fun K hK => ?_) AllReadyH.nil
        refine stAn (by rfl) (by rfl) 46 _ _ (by rfl) uu (by rfl) [.bool false, .slice none 0 0] [.bool mu, .slice au nu ku] (by rfl) 46 UV_c37.out infoW rfl (il_one _ _ _ _) ?_
        intro w9 v9 u9
        have hne := NUV.out
        have h3 := EXVUV.out
        have h4 := EYVUV.out
        have UV9 := (show Hid _ from v9)
        have XV9 := (show Hid _ from XV_c37.out.upd u9 (by omega))
        have YV9 := (show Hid _ from YV_c37.out.upd u9 (by omega))
        have JU9 := (show Hid _ from JU_c37.out.upd u9 UV_c37.out (by decide))
        have JY9 := (show Hid _ from JY_c37.out.upd u9 UV_c37.out (by decide))
        have VA9 := (show Hid _ from VA_c37.out.upd u9 (by omega))
        have VB9 := (show Hid _ from VB_c37.out.upd u9 (by omega))
        have VR9 := (show Hid _ from VR_c37.out.upd u9 (by omega))
        have BB9 := (show Hid _ from u9.bel BB_c37.out (by have := HP.out; omega))
        refine hK.out _ _ (seight XV9.out YV9.out VB9.out) (fun hHeld => ?_)
        clear hK K hHeld v9 u9
        refine wpAnyH_done (by kernel_rfl) ?_ _
        refine NoPanic.normal ?_
        go_wp2_with fail
        go_meet
        exact ⟨uu, mu, au, nu, ku, rfl, UV9, JU9, YV9, JY9, VA9, VB9, VR9, BB9, NUV.out⟩
      · go_simp
        have XV_c38 := (show Hid _ from XV_c35.out.alloc (.cells ([.bool false, .slice none 0 0] : List Value).toArray 46))
        have JX_c38 := (show Hid _ from JX_c35.out.alloc (.cells ([.bool false, .slice none 0 0] : List Value).toArray 46))
        have YV_c38 := (show Hid _ from YV_c35.out.alloc (.cells ([.bool false, .slice none 0 0] : List Value).toArray 46))
        have JY_c38 := (show Hid _ from JY_c35.out.alloc (.cells ([.bool false, .slice none 0 0] : List Value).toArray 46))
        have VA_c38 := (show Hid _ from VA_c35.out.alloc (.cells ([.bool false, .slice none 0 0] : List Value).toArray 46))
        have VB_c38 := (show Hid _ from VB_c35.out.alloc (.cells ([.bool false, .slice none 0 0] : List Value).toArray 46))
        have VR_c38 := (show Hid _ from VR_c35.out.alloc (.cells ([.bool false, .slice none 0 0] : List Value).toArray 46))
        have NT_c38 := (show Hid _ from NT_c35.out.alloc (.cells ([.bool false, .slice none 0 0] : List Value).toArray 46))
        have IT_c38 := (show Hid _ from IT_c35.out.alloc (.cells ([.bool false, .slice none 0 0] : List Value).toArray 46))
        have BB_c38 := (show Hid _ from BB_c35.out.alloc BB_c35.out.size (.cells ([.bool false, .slice none 0 0] : List Value).toArray 46))
        have LL_c38 := (show Hid _ from Nat.le_trans LL_c35.out (by simp : wc35.heap.size ≤ (wc35.alloc (.cells ([.bool false, .slice none 0 0] : List Value).toArray 46)).heap.size))
        have UV_c38 := (show Hid _ from va_new wc35 [.bool false, .slice none 0 0] 46)
        have NUV : Hid (p + 1 + 1 < wc35.heap.size) := LL_c35.out
        have EXVUV : Hid (xx < wc35.heap.size) := XV_c35.out.lt
        have EYVUV : Hid (yy < wc35.heap.size) := YV_c35.out.lt
        have SS_c38 := (show Hid _ from seight XV_c38.out YV_c38.out VB_c38.out)
        refine hK.out _ _ SS_c38.out (fun hHeld => ?_)
        try simp only [Act.put, List.setIfInBounds_toArray, List.set_cons_zero, List.set_cons_succ]
        clear hK K hHeld
        change wpAnyH _ _ _ _ _ _ _ _ (wc35.alloc (.cells ([.bool false, .slice none 0 0] : List Value).toArray 46))
        generalize wc35.alloc (.cells ([.bool false, .slice none 0 0] : List Value).toArray 46) = wc38 at *
        generalize wc35.heap.size = uu at *
        refine wpAnyH_ready (rs := [9]) (by kernel_rfl) (by simp) ?_
        refine AllReadyH.cons (by exact rfl) (fun K hK => ?_) AllReadyH.nil
        go_simp
        refine (prod_in _ _ ca (tenS cb (sb + t)) _ JX_c38.out IT_c38.out (inr_mi IA.out) (tenS_mi cb _ (by omega))).mono ?_
        rintro e wc39 ⟨⟨ru, rfl, ic39⟩, bc39⟩
        have XV_c39 := (show Hid _ from XV_c38.out.step bc39)
        have JX_c39 := (show Hid _ from JX_c38.out.step bc39)
        have YV_c39 := (show Hid _ from YV_c38.out.step bc39)
        have JY_c39 := (show Hid _ from JY_c38.out.step bc39)
        have VA_c39 := (show Hid _ from VA_c38.out.step bc39)
        have VB_c39 := (show Hid _ from VB_c38.out.step bc39)
        have VR_c39 := (show Hid _ from VR_c38.out.step bc39)
        have NT_c39 := (show Hid _ from NT_c38.out.step bc39)
        have IT_c39 := (show Hid _ from IT_c38.out.step bc39)
        have UV_c39 := (show Hid _ from UV_c38.out.step bc39)
        have BB_c39 := (show Hid _ from BB_c38.out.trans (bc39.mono BB_c38.out.size))
        have LL_c39 := (show Hid _ from Nat.le_trans LL_c38.out bc39.size)
        have JU_c39 := (show Hid _ from ic39)
        have SS_c39 := (show Hid _ from seight XV_c39.out YV_c39.out VB_c39.out)
        clear bc39 ic39
        go_wp2_with fail
        refine hK.out _ _ SS_c39.out (fun hHeld => ?_)
        try simp only [Act.put, List.setIfInBounds_toArray, List.set_cons_zero, List.set_cons_succ]
        clear hK K hHeld
        obtain ⟨mu, au, nu, ku, rfl, _⟩ := JU_c39.out.form
        refine wpAnyH_ready (rs := [11]) (by kernel_rfl) (by simp) ?_
        refine AllReadyH.cons (by exact rfl) (fun K hK => ?_) AllReadyH.nil
        refine stAn (by rfl) (by rfl) 46 _ _ (by rfl) uu (by rfl) [.bool false, .slice none 0 0] [.bool mu, .slice au nu ku] (by rfl) 46 UV_c39.out infoW rfl (il_one _ _ _ _) ?_
        intro w9 v9 u9
        have hne := NUV.out
        have h3 := EXVUV.out
        have h4 := EYVUV.out
        have UV9 := (show Hid _ from v9)
        have XV9 := (show Hid _ from XV_c39.out.upd u9 (by omega))
        have YV9 := (show Hid _ from YV_c39.out.upd u9 (by omega))
        have JU9 := (show Hid _ from JU_c39.out.upd u9 UV_c39.out (by decide))
        have JY9 := (show Hid _ from JY_c39.out.upd u9 UV_c39.out (by decide))
        have VA9 := (show Hid _ from VA_c39.out.upd u9 (by omega))
        have VB9 := (show Hid _ from VB_c39.out.upd u9 (by omega))
        have VR9 := (show Hid _ from VR_c39.out.upd u9 (by omega))
        have BB9 := (show Hid _ from u9.bel BB_c39.out (by have := HP.out; omega))
        refine hK.out _ _ (seight XV9.out YV9.out VB9.out) (fun hHeld => ?_)
        clear hK K hHeld v9 u9
        refine wpAnyH_done (by kernel_rfl) ?_ _
        refine NoPanic.normal ?_
        go_wp2_with fail
        go_meet
        exact ⟨uu, mu, au, nu, ku, rfl, UV9, JU9, YV9, JY9, VA9, VB9, VR9, BB9, NUV.out⟩
    · go_simp
      have XV_c40 := (show Hid _ from XV_v.out.alloc (.cells ([.bool false, .slice none 0 0] : List Value).toArray 46))
      have JX_c40 := (show Hid _ from JX_v.out.alloc (.cells ([.bool false, .slice none 0 0] : List Value).toArray 46))
      have YV_c40 := (show Hid _ from YV_v.out.alloc (.cells ([.bool false, .slice none 0 0] : List Value).toArray 46))
      have JY_c40 := (show Hid _ from JY_v.out.alloc (.cells ([.bool false, .slice none 0 0] : List Value).toArray 46))
      have VA_c40 := (show Hid _ from VA_v.out.alloc (.cells ([.bool false, .slice none 0 0] : List Value).toArray 46))
      have VB_c40 := (show Hid _ from VB_v.out.alloc (.cells ([.bool false, .slice none 0 0] : List Value).toArray 46))
      have VR_c40 := (show Hid _ from VR_v.out.alloc (.cells ([.bool false, .slice none 0 0] : List Value).toArray 46))
      have BB_c40 := (show Hid _ from BB_v.out.alloc BB_v.out.size (.cells ([.bool false, .slice none 0 0] : List Value).toArray 46))
      have LL_c40 := (show Hid _ from Nat.le_trans LL_v.out (by simp : wv.heap.size ≤ (wv.alloc (.cells ([.bool false, .slice none 0 0] : List Value).toArray 46)).heap.size))
      have UV_c40 := (show Hid _ from va_new wv [.bool false, .slice none 0 0] 46)
      have NUV : Hid (p + 1 + 1 < wv.heap.size) := LL_v.out
      have EXVUV : Hid (xx < wv.heap.size) := XV_v.out.lt
      have EYVUV : Hid (yy < wv.heap.size) := YV_v.out.lt
      have SS_c40 := (show Hid _ from seight XV_c40.out YV_c40.out VB_c40.out)
      refine hK.out _ _ SS_c40.out (fun hHeld => ?_)
      try simp only [Act.put, List.setIfInBounds_toArray, List.set_cons_zero, List.set_cons_succ]
      clear hK K hHeld
      change wpAnyH _ _ _ _ _ _ _ _ (wv.alloc (.cells ([.bool false, .slice none 0 0] : List Value).toArray 46))
      generalize wv.alloc (.cells ([.bool false, .slice none 0 0] : List Value).toArray 46) = wc40 at *
      generalize wv.heap.size = uu at *
      refine wpAnyH_ready (rs := [7]) (by kernel_rfl) (by simp) ?_
      refine AllReadyH.cons (by exact rfl) (fun K hK => ?_) AllReadyH.nil
      go_simp
      refine (ten_ok (sb + t) _ (by omega)).mono ?_
      rintro e wc41 ⟨⟨u1, rfl, ic41⟩, bc41⟩
      have XV_c41 := (show Hid _ from XV_c40.out.step bc41)
      have JX_c41 := (show Hid _ from JX_c40.out.step bc41)
      have YV_c41 := (show Hid _ from YV_c40.out.step bc41)
      have JY_c41 := (show Hid _ from JY_c40.out.step bc41)
      have VA_c41 := (show Hid _ from VA_c40.out.step bc41)
      have VB_c41 := (show Hid _ from VB_c40.out.step bc41)
      have VR_c41 := (show Hid _ from VR_c40.out.step bc41)
      have UV_c41 := (show Hid _ from UV_c40.out.step bc41)
      have BB_c41 := (show Hid _ from BB_c40.out.trans (bc41.mono BB_c40.out.size))
      have LL_c41 := (show Hid _ from Nat.le_trans LL_c40.out bc41.size)
      have NT_c41 := (show Hid _ from ic41)
      have SS_c41 := (show Hid _ from seight XV_c41.out YV_c41.out VB_c41.out)
      clear bc41 ic41
      go_wp2_with fail
      refine hK.out _ _ SS_c41.out (fun hHeld => ?_)
      try simp only [Act.put, List.setIfInBounds_toArray, List.set_cons_zero, List.set_cons_succ]
      clear hK K hHeld
      have IT_c41 := (show Hid _ from in_mk (m := my) (z := tenS cb (sb + t)) (by rw [tenS_abs]; exact NT_c41.out) (fun h => HSG.out.1 h) (fun h => HSG.out.2 h))
      obtain ⟨ua, un, uk, rfl⟩ := NT_c41.out.form
      have hHeld := SS_c41.out
      refine takeD 8 43 (.agg #[.bool my, .slice ua un uk]) (by exact rfl) rfl (by kernel_rfl) (by kernel_rfl) (by kernel_rfl) (fun _ _ _ h => h) (Or.inl ⟨by rfl, ?_⟩) (by assumption) ?_
      · intro wq hS
        go_simp
      try simp only [Act.put, List.setIfInBounds_toArray, List.set_cons_zero, List.set_cons_succ]
      clear hHeld
      refine wpAnyH_ready (rs := [9]) (by kernel_rfl) (by simp) ?_
      refine AllReadyH.cons (by exact rfl) (fun K hK => ?_) AllReadyH.nil
      go_simp
      refine (prod_in _ _ ca (tenS cb (sb + t)) _ JX_c41.out IT_c41.out (inr_mi IA.out) (tenS_mi cb _ (by omega))).mono ?_
      rintro e wc42 ⟨⟨ru, rfl, ic42⟩, bc42⟩
      have XV_c42 := (show Hid _ from XV_c41.out.step bc42)
      have JX_c42 := (show Hid _ from JX_c41.out.step bc42)
      have YV_c42 := (show Hid _ from YV_c41.out.step bc42)
      have JY_c42 := (show Hid _ from JY_c41.out.step bc42)
      have VA_c42 := (show Hid _ from VA_c41.out.step bc42)
      have VB_c42 := (show Hid _ from VB_c41.out.step bc42)
      have VR_c42 := (show Hid _ from VR_c41.out.step bc42)
      have UV_c42 := (show Hid _ from UV_c41.out.step bc42)
      have NT_c42 := (show Hid _ from NT_c41.out.step bc42)
      have IT_c42 := (show Hid _ from IT_c41.out.step bc42)
      have BB_c42 := (show Hid _ from BB_c41.out.trans (bc42.mono BB_c41.out.size))
      have LL_c42 := (show Hid _ from Nat.le_trans LL_c41.out bc42.size)
      have JU_c42 := (show Hid _ from ic42)
      have SS_c42 := (show Hid _ from seight XV_c42.out YV_c42.out VB_c42.out)
      clear bc42 ic42
      go_wp2_with fail
      refine hK.out _ _ SS_c42.out (fun hHeld => ?_)
      try simp only [Act.put, List.setIfInBounds_toArray, List.set_cons_zero, List.set_cons_succ]
      clear hK K hHeld
      obtain ⟨mu, au, nu, ku, rfl, _⟩ := JU_c42.out.form
      refine wpAnyH_ready (rs := [11]) (by kernel_rfl) (by simp) ?_
      refine AllReadyH.cons (by exact rfl) (fun K hK => ?_) AllReadyH.nil
      refine stAn (by rfl) (by rfl) 46 _ _ (by rfl) uu (by rfl) [.bool false, .slice none 0 0] [.bool mu, .slice au nu ku] (by rfl) 46 UV_c42.out infoW rfl (il_one _ _ _ _) ?_
      intro w9 v9 u9
      have hne := NUV.out
      have h3 := EXVUV.out
      have h4 := EYVUV.out
      have UV9 := (show Hid _ from v9)
      have XV9 := (show Hid _ from XV_c42.out.upd u9 (by omega))
      have YV9 := (show Hid _ from YV_c42.out.upd u9 (by omega))
      have JU9 := (show Hid _ from JU_c42.out.upd u9 UV_c42.out (by decide))
      have JY9 := (show Hid _ from JY_c42.out.upd u9 UV_c42.out (by decide))
      have VA9 := (show Hid _ from VA_c42.out.upd u9 (by omega))
      have VB9 := (show Hid _ from VB_c42.out.upd u9 (by omega))
      have VR9 := (show Hid _ from VR_c42.out.upd u9 (by omega))
      have BB9 := (show Hid _ from u9.bel BB_c42.out (by have := HP.out; omega))
      refine hK.out _ _ (seight XV9.out YV9.out VB9.out) (fun hHeld => ?_)
      clear hK K hHeld v9 u9
      refine wpAnyH_done (by kernel_rfl) ?_ _
      refine NoPanic.normal ?_
      go_wp2_with fail
      go_meet
      exact ⟨uu, mu, au, nu, ku, rfl, UV9, JU9, YV9, JY9, VA9, VB9, VR9, BB9, NUV.out⟩
  clear XV JX YV JY VA9 VB9 VR9 BB9
  obtain ⟨uu, mu, au, nu, ku, rfl, UV, JU, YV, JY, VA9, VB9, VR9, BB9, NU⟩ := hcut
  generalize hw7 : wc = w7 at *
  clear hw7
  go_upto_region 9 with fail
  refine wp_region_noPanic ?_
  refine wp_region_held_drew (S := fun w' => (w'.cell? ⟨uu, 0, none⟩ = some (.bool mu) ∧ w'.cell? ⟨uu, 1, none⟩ = some (.slice au nu ku) ∧ uu < w'.heap.size) ∧ (w'.cell? ⟨yy, 0, none⟩ = some (.bool my) ∧ w'.cell? ⟨yy, 1, none⟩ = some (.slice ay ny ky) ∧ yy < w'.heap.size) ∧ w'.cell? ⟨p, 2, none⟩ = some (.int .i64 sa) ∧ p < w'.heap.size) (by kernel_rfl) (snine UV.out.drew YV.out.drew VA9.out.drew) (fun hHeld => ?_)
  refine takeD 0 45 (.agg #[.bool mu, .slice au nu ku]) (by exact rfl) rfl (by kernel_rfl) (by kernel_rfl) (by kernel_rfl) (fun _ _ _ h => h) (Or.inl ⟨by rfl, ?_⟩) (by assumption) ?_
  · intro wq hS
    obtain ⟨⟨h1, h2, h3⟩, ⟨h4, h5, h6⟩, h7, h8⟩ := hS
    go_simp
  try simp only [Act.put, List.setIfInBounds_toArray, List.set_cons_zero, List.set_cons_succ]
  refine takeD 1 46 (.pointer (some ⟨yy, 1, none⟩)) (by exact rfl) rfl (by kernel_rfl) (by kernel_rfl) (by kernel_rfl) (fun _ _ _ h => h) (Or.inl ⟨by rfl, ?_⟩) (by assumption) ?_
  · intro wq hS
    go_simp
  try simp only [Act.put, List.setIfInBounds_toArray, List.set_cons_zero, List.set_cons_succ]
  refine takeD 2 47 (.slice ay ny ky) (by exact rfl) rfl (by kernel_rfl) (by kernel_rfl) (by kernel_rfl) (fun _ _ _ h => h) (Or.inl ⟨by rfl, ?_⟩) (by assumption) ?_
  · intro wq hS
    obtain ⟨⟨h1, h2, h3⟩, ⟨h4, h5, h6⟩, h7, h8⟩ := hS
    go_simp
  try simp only [Act.put, List.setIfInBounds_toArray, List.set_cons_zero, List.set_cons_succ]
  refine takeD 3 48 (.pointer (some ⟨p, 2, none⟩)) (by exact rfl) rfl (by kernel_rfl) (by kernel_rfl) (by kernel_rfl) (fun _ _ _ h => h) (Or.inl ⟨by rfl, ?_⟩) (by assumption) ?_
  · intro wq hS
    go_simp
  try simp only [Act.put, List.setIfInBounds_toArray, List.set_cons_zero, List.set_cons_succ]
  refine takeD 4 49 (.int .i64 sa) (by exact rfl) rfl (by kernel_rfl) (by kernel_rfl) (by kernel_rfl) (fun _ _ _ h => h) (Or.inl ⟨by rfl, ?_⟩) (by assumption) ?_
  · intro wq hS
    obtain ⟨⟨h1, h2, h3⟩, ⟨h4, h5, h6⟩, h7, h8⟩ := hS
    go_simp
  try simp only [Act.put, List.setIfInBounds_toArray, List.set_cons_zero, List.set_cons_succ]
  refine takeD 7 52 (.int .i64 mode) (by exact rfl) rfl (by kernel_rfl) (by kernel_rfl) (by kernel_rfl) (fun _ _ _ h => h) (Or.inl ⟨by rfl, ?_⟩) (by assumption) ?_
  · intro wq hS
    go_simp
  try simp only [Act.put, List.setIfInBounds_toArray, List.set_cons_zero, List.set_cons_succ]
  refine takeD 9 54 (.int .i64 t) (by exact rfl) rfl (by kernel_rfl) (by kernel_rfl) (by kernel_rfl) (fun _ _ _ h => h) (Or.inl ⟨by rfl, ?_⟩) (by assumption) ?_
  · intro wq hS
    go_simp
  try simp only [Act.put, List.setIfInBounds_toArray, List.set_cons_zero, List.set_cons_succ]
  clear hHeld
  have UV_y := (show Hid _ from UV.out.drew)
  have JU_y := (show Hid _ from JU.out.drew)
  have YV_y := (show Hid _ from YV.out.drew)
  have VA_y := (show Hid _ from VA9.out.drew)
  have VR_y := (show Hid _ from VR9.out.drew)
  have BB_y := (show Hid _ from BB9.out.drew)
  have LL_y : Hid (p + 1 + 1 < w7.drew.heap.size) := VR_y.out.lt
  have NY_y : Hid (Nm w7.drew (.slice ay ny ky) cb.natAbs) := by
    obtain ⟨m', a', n', c', e', hn, _⟩ := JY.out.drew.form
    cases e'
    exact hn
  have SS_y := (show Hid _ from snine UV_y.out YV_y.out VA_y.out)
  clear UV JU YV JY VA9 VB9 VR9 BB9
  generalize w7.drew = wy at *
  refine wpAnyH_ready (rs := [5]) (by kernel_rfl) (by simp) ?_
  refine AllReadyH.cons (by exact rfl) (fun K hK => ?_) AllReadyH.nil
  go_simp
  refine (ten_ok sa _ (by omega)).mono ?_
  rintro e wc43 ⟨⟨u1, rfl, ic43⟩, bc43⟩
  have UV_c43 := (show Hid _ from UV_y.out.step bc43)
  have JU_c43 := (show Hid _ from JU_y.out.step bc43)
  have YV_c43 := (show Hid _ from YV_y.out.step bc43)
  have VA_c43 := (show Hid _ from VA_y.out.step bc43)
  have VR_c43 := (show Hid _ from VR_y.out.step bc43)
  have NY_c43 := (show Hid _ from NY_y.out.step bc43)
  have BB_c43 := (show Hid _ from BB_y.out.trans (bc43.mono BB_y.out.size))
  have LL_c43 := (show Hid _ from Nat.le_trans LL_y.out bc43.size)
  have N1_c43 := (show Hid _ from ic43)
  have SS_c43 := (show Hid _ from snine UV_c43.out YV_c43.out VA_c43.out)
  clear bc43 ic43
  go_wp2_with fail
  refine hK.out _ _ SS_c43.out (fun hHeld => ?_)
  try simp only [Act.put, List.setIfInBounds_toArray, List.set_cons_zero, List.set_cons_succ]
  clear hK K hHeld
  refine wpAnyH_ready (rs := [6]) (by kernel_rfl) (by simp) ?_
  refine AllReadyH.cons (by exact rfl) (fun K hK => ?_) AllReadyH.nil
  go_simp
  refine (times_ok _ u1 _ _ _ NY_c43.out N1_c43.out (inr_mi IB.out) (ten_md sa (by omega))).mono ?_
  rintro e wc44 ⟨⟨u2, rfl, ic44⟩, bc44⟩
  have UV_c44 := (show Hid _ from UV_c43.out.step bc44)
  have JU_c44 := (show Hid _ from JU_c43.out.step bc44)
  have YV_c44 := (show Hid _ from YV_c43.out.step bc44)
  have VA_c44 := (show Hid _ from VA_c43.out.step bc44)
  have VR_c44 := (show Hid _ from VR_c43.out.step bc44)
  have NY_c44 := (show Hid _ from NY_c43.out.step bc44)
  have N1_c44 := (show Hid _ from N1_c43.out.step bc44)
  have BB_c44 := (show Hid _ from BB_c43.out.trans (bc44.mono BB_c43.out.size))
  have LL_c44 := (show Hid _ from Nat.le_trans LL_c43.out bc44.size)
  have N2_c44 := (show Hid _ from ic44)
  have SS_c44 := (show Hid _ from snine UV_c44.out YV_c44.out VA_c44.out)
  clear bc44 ic44
  go_wp2_with fail
  refine hK.out _ _ SS_c44.out (fun hHeld => ?_)
  try simp only [Act.put, List.setIfInBounds_toArray, List.set_cons_zero, List.set_cons_succ]
  clear hK K hHeld
  refine wpAnyH_ready (rs := [8]) (by kernel_rfl) (by simp) ?_
  refine AllReadyH.cons (by exact rfl) (fun K hK => ?_) AllReadyH.nil
  go_simp
  refine (rounded_in _ u2 (ca * tenS cb (sb + t)) _ mode _ JU_c44.out N2_c44.out (quo_up_mi IA.out cb _ (by omega)) (den_md IB.out sa (by omega)) HDP.out (by omega)).mono ?_
  rintro e wc45 ⟨⟨r9, rfl, ic45⟩, bc45⟩
  have UV_c45 := (show Hid _ from UV_c44.out.step bc45)
  have JU_c45 := (show Hid _ from JU_c44.out.step bc45)
  have YV_c45 := (show Hid _ from YV_c44.out.step bc45)
  have VA_c45 := (show Hid _ from VA_c44.out.step bc45)
  have VR_c45 := (show Hid _ from VR_c44.out.step bc45)
  have NY_c45 := (show Hid _ from NY_c44.out.step bc45)
  have N1_c45 := (show Hid _ from N1_c44.out.step bc45)
  have N2_c45 := (show Hid _ from N2_c44.out.step bc45)
  have BB_c45 := (show Hid _ from BB_c44.out.trans (bc45.mono BB_c44.out.size))
  have LL_c45 := (show Hid _ from Nat.le_trans LL_c44.out bc45.size)
  have JR_c45 := (show Hid _ from ic45)
  have SS_c45 := (show Hid _ from snine UV_c45.out YV_c45.out VA_c45.out)
  clear bc45 ic45
  go_wp2_with fail
  refine hK.out _ _ SS_c45.out (fun hHeld => ?_)
  try simp only [Act.put, List.setIfInBounds_toArray, List.set_cons_zero, List.set_cons_succ]
  clear hK K hHeld
  have hJR := JR_c45.out
  rw [qv_eq] at hJR
  have JQ_c45 := (show Hid _ from hJR)
  clear hJR
  by_cases hr : InR (qv ca sa cb sb t mode)
  · have HRR : Hid (InR (qv ca sa cb sb t mode)) := hr
    clear hr
    refine wpAnyH_ready (rs := [10]) (by kernel_rfl) (by simp) ?_
    refine AllReadyH.cons (by exact rfl) (fun K hK => ?_) AllReadyH.nil
    go_simp
    refine (decr_ok r9 (qv ca sa cb sb t mode) t _ JQ_c45.out HRR.out).mono ?_
    rintro e wc46 ⟨rfl, bc46⟩
    have UV_c46 := (show Hid _ from UV_c45.out.step bc46)
    have YV_c46 := (show Hid _ from YV_c45.out.step bc46)
    have VA_c46 := (show Hid _ from VA_c45.out.step bc46)
    have VR_c46 := (show Hid _ from VR_c45.out.step bc46)
    have BB_c46 := (show Hid _ from BB_c45.out.trans (bc46.mono BB_c45.out.size))
    have SS_c46 := (show Hid _ from snine UV_c46.out YV_c46.out VA_c46.out)
    clear bc46
    go_wp2_with fail
    refine hK.out _ _ SS_c46.out (fun hHeld => ?_)
    try simp only [Act.put, List.setIfInBounds_toArray, List.set_cons_zero, List.set_cons_succ]
    clear hK K
    refine takeD 11 56 (.agg #[.int .i64 (dhi (qv ca sa cb sb t mode)), .int .u64 (dlo (qv ca sa cb sb t mode)), .int .i64 t]) (by exact rfl) rfl (by kernel_rfl) (by kernel_rfl) (by kernel_rfl) (fun _ _ _ h => h) (Or.inl ⟨by rfl, ?_⟩) (by assumption) ?_
    · intro wq hS
      go_simp
    try simp only [Act.put, List.setIfInBounds_toArray, List.set_cons_zero, List.set_cons_succ]
    refine takeD 12 57 (.int .i64 0) (by exact rfl) rfl (by kernel_rfl) (by kernel_rfl) (by kernel_rfl) (fun _ _ _ h => h) (Or.inl ⟨by rfl, ?_⟩) (by assumption) ?_
    · intro wq hS
      go_simp
    try simp only [Act.put, List.setIfInBounds_toArray, List.set_cons_zero, List.set_cons_succ]
    clear hHeld
    refine wpAnyH_ready (rs := [13]) (by kernel_rfl) (by simp) ?_
    refine AllReadyH.cons (by exact rfl) (fun K hK => ?_) AllReadyH.nil
    refine stAn (by rfl) (by rfl) 24 _ _ (by rfl) (p + 1 + 1) (by rfl) [.int .i64 0, .int .u64 0, .int .i64 0] [.int .i64 (dhi (qv ca sa cb sb t mode)), .int .u64 (dlo (qv ca sa cb sb t mode)), .int .i64 t] (by rfl) 24 VR_c46.out infoD rfl (dl_one _ _ _) ?_
    intro wf vf uf
    have hu := NU.out
    have hy := NN.out
    have UVf := (show Hid _ from UV_c46.out.upd uf (by omega))
    have YVf := (show Hid _ from YV_c46.out.upd uf (by omega))
    have VAf := (show Hid _ from VA_c46.out.upd uf (by omega))
    refine hK.out _ _ (snine UVf.out YVf.out VAf.out) (fun hHeld => ?_)
    clear hK K
    refine takeD 14 9 (.int .i64 0) (by exact rfl) rfl (by kernel_rfl) (by kernel_rfl) (by kernel_rfl) (fun _ _ _ h => h) (Or.inl ⟨by rfl, ?_⟩) (by assumption) ?_
    · intro wq hS
      go_simp
    try simp only [Act.put, List.setIfInBounds_toArray, List.set_cons_zero, List.set_cons_succ]
    refine wpAnyH_done (by kernel_rfl) ?_ _
    refine NoPanic.normal ?_
    have Bf := (show Hid _ from uf.bel BB_c46.out (by have := HP.out; omega))
    have hld := run_loadVar_row (P := Try.prog) wf (p + 1 + 1) 24 24 _ (0, 0) _ vf.blk Try.underlying24 rfl infoD
    go_wp2_with fail
    refine bodyPost_ret (v := .tuple #[.agg #[.int .i64 (dhi (qv ca sa cb sb t mode)), .int .u64 (dlo (qv ca sa cb sb t mode)), .int .i64 t], .int .i64 0]) (by simp [results, Try.results5, asAddr, hld]) rfl ⟨Or.inr (Or.inl ⟨H0.out, HRR.out, rfl⟩), Bf.out⟩
  · have HRR : Hid (¬ InR (qv ca sa cb sb t mode)) := hr
    clear hr
    refine wpAnyH_ready (rs := [10]) (by kernel_rfl) (by simp) ?_
    refine AllReadyH.cons (by exact rfl) (fun K hK => ?_) AllReadyH.nil
    go_simp
    refine (decr_big r9 (qv ca sa cb sb t mode) t _ JQ_c45.out (not_in HRR.out)).mono ?_
    rintro e wc47 ⟨rfl, bc47⟩
    have UV_c47 := (show Hid _ from UV_c45.out.step bc47)
    have YV_c47 := (show Hid _ from YV_c45.out.step bc47)
    have VA_c47 := (show Hid _ from VA_c45.out.step bc47)
    have VR_c47 := (show Hid _ from VR_c45.out.step bc47)
    have BB_c47 := (show Hid _ from BB_c45.out.trans (bc47.mono BB_c45.out.size))
    have SS_c47 := (show Hid _ from snine UV_c47.out YV_c47.out VA_c47.out)
    clear bc47
    go_wp2_with fail
    refine hK.out _ _ SS_c47.out (fun hHeld => ?_)
    try simp only [Act.put, List.setIfInBounds_toArray, List.set_cons_zero, List.set_cons_succ]
    clear hK K
    refine takeD 11 56 (.agg #[.int .i64 0, .int .u64 0, .int .i64 0]) (by exact rfl) rfl (by kernel_rfl) (by kernel_rfl) (by kernel_rfl) (fun _ _ _ h => h) (Or.inl ⟨by rfl, ?_⟩) (by assumption) ?_
    · intro wq hS
      go_simp
    try simp only [Act.put, List.setIfInBounds_toArray, List.set_cons_zero, List.set_cons_succ]
    refine takeD 12 57 (.int .i64 4) (by exact rfl) rfl (by kernel_rfl) (by kernel_rfl) (by kernel_rfl) (fun _ _ _ h => h) (Or.inl ⟨by rfl, ?_⟩) (by assumption) ?_
    · intro wq hS
      go_simp
    try simp only [Act.put, List.setIfInBounds_toArray, List.set_cons_zero, List.set_cons_succ]
    clear hHeld
    refine wpAnyH_ready (rs := [13]) (by kernel_rfl) (by simp) ?_
    refine AllReadyH.cons (by exact rfl) (fun K hK => ?_) AllReadyH.nil
    refine stAn (by rfl) (by rfl) 24 _ _ (by rfl) (p + 1 + 1) (by rfl) [.int .i64 0, .int .u64 0, .int .i64 0] [.int .i64 0, .int .u64 0, .int .i64 0] (by rfl) 24 VR_c47.out infoD rfl (dl_one _ _ _) ?_
    intro wf vf uf
    have hu := NU.out
    have hy := NN.out
    have UVf := (show Hid _ from UV_c47.out.upd uf (by omega))
    have YVf := (show Hid _ from YV_c47.out.upd uf (by omega))
    have VAf := (show Hid _ from VA_c47.out.upd uf (by omega))
    refine hK.out _ _ (snine UVf.out YVf.out VAf.out) (fun hHeld => ?_)
    clear hK K
    refine takeD 14 9 (.int .i64 4) (by exact rfl) rfl (by kernel_rfl) (by kernel_rfl) (by kernel_rfl) (fun _ _ _ h => h) (Or.inl ⟨by rfl, ?_⟩) (by assumption) ?_
    · intro wq hS
      go_simp
    try simp only [Act.put, List.setIfInBounds_toArray, List.set_cons_zero, List.set_cons_succ]
    refine wpAnyH_done (by kernel_rfl) ?_ _
    refine NoPanic.normal ?_
    have Bf := (show Hid _ from uf.bel BB_c47.out (by have := HP.out; omega))
    have hld := run_loadVar_row (P := Try.prog) wf (p + 1 + 1) 24 24 _ (0, 0) _ vf.blk Try.underlying24 rfl infoD
    go_wp2_with fail
    refine bodyPost_ret (v := .tuple #[.agg #[.int .i64 0, .int .u64 0, .int .i64 0], .int .i64 4]) (by simp [results, Try.results5, asAddr, hld]) rfl ⟨Or.inr (Or.inr ⟨H0.out, HRR.out, rfl⟩), Bf.out⟩
end Go.Proofs.Ytegooagmlapngaa
