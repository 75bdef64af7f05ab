/- accrue: the document's interest, in whole numbers of any length. -/
import Derived.Test.YtmaikgebdegkgaaM8
import Derived.Test.YtmaikgebdegkgaaM7
namespace Go.Proofs.Ytmaikgebdegkgaa
open Go.RowKit
set_option linter.unusedVariables false

theorem infoW : (Try.prog.info? 65).map (·.size) = some 2 := by kernel_rfl
theorem il_one (m : Bool) (a : Option Addr) (n c : Nat) : ∀ v ∈ [Value.bool m, .slice a n c], v.oneCell' = true := by intro v hv; simp at hv; rcases hv with rfl | rfl <;> rfl
theorem mi_small {x : Int} (h1 : 0 ≤ x) (h2 : x ≤ 1000000000000000000000000000000000000000000) : Mi x := by
  unfold Mi
  exact md_of (k := 160) (by have : x.natAbs ≤ 1000000000000000000000000000000000000000000 := by omega
                             exact Nat.lt_of_le_of_lt this (by decide)) (by decide)
theorem Nm.upd {w w' : World} {v : Value} {x p : Nat} {cs : List Value} {T : TypeId} (h : Nm w v x) (k : Upd p w w') (hp : VA w p cs T) (hT : T ≠ 46) : Nm w' v x := by
  obtain ⟨ds, ⟨s, a, c, e, hc, f⟩, n, ev⟩ := h
  refine ⟨ds, ⟨s, a, c, e, hc, fun h0 => ?_⟩, n, ev⟩
  obtain ⟨b, off, ea, ⟨hb, cur', fr', hk⟩, hx⟩ := f h0
  have hne : b ≠ p := by
    intro e
    subst e
    rw [hp.blk] at hk
    simp at hk
    exact hT hk.2.1
  exact ⟨b, off, ea, ⟨by rw [k.size]; exact hb, cur', fr', by rw [k.block b hne]; exact hk⟩, fun j hj => (cell_upd k hne).trans (hx j hj)⟩
theorem In.upd {w w' : World} {v : Value} {z : Int} {p : Nat} {cs : List Value} {T : TypeId} (h : In w v z) (k : Upd p w w') (hp : VA w p cs T) (hT : T ≠ 46) : In w' v z := by
  obtain ⟨m, ⟨s, e, hn⟩, a, b⟩ := h
  exact ⟨m, ⟨s, e, hn.upd k hp hT⟩, a, b⟩
theorem OwnI.upd {w w' : World} {B p n c g : Nat} {zs : List Int} (h : OwnI w B (.slice (some ⟨g, 0, none⟩) n c) zs) (k : Upd p w w') (hne : g ≠ p) : OwnI w' B (.slice (some ⟨g, 0, none⟩) n c) zs := by
  refine ⟨h.own.1, ?_⟩
  rcases h.own.2 with h2 | ⟨g', cap, cur, e, hb, hg, r⟩
  · exact Or.inl h2
  · cases e
    exact Or.inr ⟨g, c, cur, rfl, hb, by rw [k.block g hne]; exact hg, r⟩
theorem doc_round (Y nn d : Int) (mode : Nat) (h : 0 ≤ Y * nn) (hd : 0 < d) : sv (decide (Y * nn * 1000000 < 0)) (rnd (decide (Y * nn * 1000000 < 0)) (Y * nn * 1000000).natAbs (d.toNat * 10 ^ 9) mode) = ((rq (Y * nn) (d * 1000) mode : Nat) : Int) := by
  rw [decide_eq_false (show ¬ Y * nn * 1000000 < 0 by omega)]
  unfold sv rq
  simp only [Bool.false_eq_true, if_false]
  have e : rquo false (Y * nn).natAbs (d * 1000).natAbs 0 mode = rnd false (Y * nn).natAbs (d * 1000).natAbs mode := by
    unfold rnd rquo rnum rden
    simp
  have e1 : (Y * nn * 1000000).natAbs = (Y * nn).natAbs * 1000000 := by omega
  have e2 : d.toNat * 10 ^ 9 = (d * 1000).natAbs * 1000000 := by rw [show (10 : Nat) ^ 9 = 1000000000 from rfl]; omega
  rw [e, e1, e2, rnd_scale false (Y * nn).natAbs (d * 1000).natAbs 1000000 mode (by omega)]
/-- all of a struct is stored, in a drawn region; the frame stays -/
theorem stAn {w : World} {y : Nat → Option Bool} {o : Oper} {a : Act} {Q : Exit → Act → World → Prop} {K : Act → World → Prop} {k0 : Prop} (hgd : Region.wanted o y = true) (hd : o.dst = none) (t : TypeId) (x z : Operand) (ho : o.op = .store t x z)
    (p : Nat) (hx : a.eval x = .pointer (some ⟨p, 0, none⟩)) (cs ds : List Value) (hy : a.eval z = .agg ds.toArray) (T : TypeId) (h : VA w p cs T) (hi : (Try.prog.info? t).map (·.size) = some ds.length) (hl : cs.length = ds.length) (h1 : ∀ v ∈ ds, v.oneCell' = true)
    (k : ∀ w', VA w' p ds T → Upd p w w' → K a w') : if Region.wanted o y = true then o.wp Try.prog a w K Q else k0 := by
  refine stAw hgd t x z ho p hx cs ds hy T h hi hl h1 (fun w' v u => ?_)
  rw [hd]
  exact k w' v u
theorem cells2 {w : World} {p : Nat} {x y : Value} {T : TypeId} (h : VA w p [x, y] T) : w.cell? ⟨p, 0, none⟩ = some x ∧ w.cell? ⟨p, 1, none⟩ = some y ∧ p < w.heap.size := ⟨h.cell 0 rfl, h.cell 1 rfl, h.lt⟩
set_option maxHeartbeats 20000000 in
set_option maxRecDepth 100000 in
theorem rdaily_ok (b : Int) (tv : Value) (ts : List (Int × Int)) (how f t nn d : Int) (mode : Nat) (w : World) (h : Tr w tv ts) (hb : 0 ≤ b ∧ b ≤ 10000000000000) (ht : terr ts = 0) (hm : mode ≤ 6)
    (hP : ∀ w, Calls Try.prog 43 #[.int .i64 how, .int .i64 f, .int .i64 t] w fun e w' => e = .returned (.tuple #[.int .i64 nn, .int .i64 d]) ∧ w' = w) (hn : 0 ≤ nn ∧ nn ≤ 1500000000) (hd : 0 < d ∧ d ≤ 133590) :
    Calls Try.prog 27 #[.int .i64 b, tv, .int .i64 how, .int .i64 mode, .int .i64 f, .int .i64 t] w fun e w' => (∃ r, e = .returned r ∧ In w' r (dly b ts nn d mode)) ∧ Below w.heap.size w w' := by
  obtain ⟨n, hn'⟩ : ∃ n, n = ts.length := ⟨_, rfl⟩
  have H := (show Hid _ from h)
  obtain ⟨ta, tc, rfl, g1, g2⟩ : ∃ a c, tv = .slice a n c ∧ n ≤ c ∧ c ≤ 9223372036854775807 := by obtain ⟨_, a, c, e, h1, h2, _⟩ := h; exact ⟨a, c, by rw [hn']; exact e, by rw [hn']; exact h1, h2⟩
  have hz := terr_zero ht
  have h8 : n ≤ 8 := by omega
  have h1 : 1 ≤ n := by omega
  have HN := (show Hid _ from hn')
  have HT := (show Hid _ from ht)
  have HBB := (show Hid _ from hb)
  have HPT := (show Hid _ from hP)
  have HNN := (show Hid _ from And.intro hn hd)
  have HM := (show Hid _ from hm)
  clear h hn' hz ht hb hP hn hd hm
  have R0 := (show Hid _ from (va_new w [.bool false, .slice none 0 0] 65).alloc (.cells #[.bool false, .slice none 0 0] 65))
  have V0 := (show Hid _ from va_new (w.alloc (.cells #[.bool false, .slice none 0 0] 65)) [.bool false, .slice none 0 0] 65)
  rw [show (w.alloc (.cells #[.bool false, .slice none 0 0] 65)).heap.size = w.heap.size + 1 by simp] at V0
  have B0 := (show Hid _ from ((Below.refl w.heap.size w).alloc (Nat.le_refl _) (.cells #[.bool false, .slice none 0 0] 65)).alloc (by simp) (.cells #[.bool false, .slice none 0 0] 65))
  go_enter Try.func27, Try.ntmps27
  go_wp2_with (refine stA rfl 65 _ _ rfl (w.heap.size + 1) (by rfl) [.bool false, .slice none 0 0] [.bool false, .slice none 0 0] (by rfl) 65 V0.out infoW rfl (il_one _ _ _ _) ?_; intro w1 va up; have V1 := (show Hid _ from va); have R1 := (show Hid _ from R0.out.upd up (by omega)); have B1 := (show Hid _ from up.bel B0.out (by omega)); clear va up)
  refine (rparts_ok b _ ts _ (H.out.step B1.out) HBB.out HT.out).mono ?_
  rintro e w2 ⟨⟨pv, rfl, ho⟩, b2⟩
  rw [← HN.out] at ho
  obtain ⟨pa, pc, rfl, k1, k2⟩ := ho.form
  rw [prts_len] at k1 ho ⊢
  obtain ⟨pg, rfl, hpg, _⟩ := ho.at 0 (by rw [prts_len]; omega)
  have hpb := ho.block pg rfl
  have V2' := (show Hid _ from V1.out.step b2)
  have R2 := (show Hid _ from R1.out.step b2)
  have B2 := (show Hid _ from B1.out.trans (b2.mono B1.out.size))
  have PO2 := (show Hid _ from ho)
  have HPO : Hid (pg ≠ w.heap.size + 1) := (by have := V1.out.lt; omega : pg ≠ w.heap.size + 1)
  have I2 : Hid (In w2 (.agg #[.bool false, .slice none 0 0]) 0) := in_mk (nm_nil w2) (fun h => by omega) (fun h => by omega)
  have s1 := B1.out.size
  clear ho b2 V0 R0 B0 V1 R1 B1
  generalize w1.heap.size = pB at *
  go_wp2_with fail
  go_loopw [24] (fun i wr => ∃ (k : Nat) (m : Bool) (sa : Option Addr) (sn sc : Nat), k ≤ n ∧ i = .int .i64 k ∧ Hid (VA wr (w.heap.size + 1) [.bool m, .slice sa sn sc] 65) ∧ Hid (In wr (.agg #[.bool m, .slice sa sn sc]) (ysum b ts k)) ∧ Hid (VA wr w.heap.size [.bool false, .slice none 0 0] 65) ∧ Hid (OwnI wr pB (.slice (some ⟨pg, 0, none⟩) n pc) (prts b ts n)) ∧ Hid (Below w.heap.size w wr)) (fun i _ => n - (intOf i).toNat)
  case atStart => exact ⟨0, false, none, 0, 0, by omega, rfl, V2', I2, R2, PO2, B2⟩
  case round =>
    obtain ⟨k, m, sa, sn, sc, hk, rfl, v, si, r, po, hb⟩ := hrel
    by_cases hkn : k = n
    · subst hkn
      have hys := ysum_bd HBB.out HT.out k (by have := HN.out; omega)
      obtain ⟨Y, hY⟩ : ∃ Y, Y = ysum b ts k := ⟨_, rfl⟩
      rw [← hY] at hys si
      have HYY : Hid (Y = ysum b ts ts.length) := (by rw [hY, ← HN.out] : Y = ysum b ts ts.length)
      have hn9 := HNN.out
      have p0 : 0 ≤ Y * nn := Int.mul_nonneg hys.1 hn9.1.1
      have p1 : Y * nn ≤ 80000000000000000000000 * 1500000000 := Int.mul_le_mul (by omega) hn9.1.2 hn9.1.1 (by omega)
      have HP := (show Hid _ from And.intro hys (And.intro p0 (And.intro p1 hn9)))
      have dw : IntKind.u64.wrap d = d := by rw [IntKind.wrap_u64]; omega
      clear hY hys p0 p1 hn9 V2' I2 R2 PO2 B2
      go_wp2_with fail
      refine (HPT.out _).mono ?_
      rintro e w3 ⟨rfl, hw⟩
      obtain rfl := hw.symm
      go_upto_region 8 with fail
      refine wp_region_noPanic ?_
      refine wp_region_held_drew (S := fun w' => w'.cell? ⟨w.heap.size + 1, 0, none⟩ = some (.bool m) ∧ w'.cell? ⟨w.heap.size + 1, 1, none⟩ = some (.slice sa sn sc) ∧ w.heap.size + 1 < w'.heap.size) (by kernel_rfl) (cells2 v.out.drew) (fun hHeld => ?_)
      refine takeD 0 48 (.agg #[.bool m, .slice sa sn sc]) (by exact rfl) rfl (by kernel_rfl) (by kernel_rfl) (by kernel_rfl) (fun _ _ _ h => h) (Or.inl ⟨by rfl, ?_⟩) (by assumption) ?_
      · intro wq hS
        obtain ⟨h1, h2, h3⟩ := hS
        go_simp
      try simp only [Act.put, List.setIfInBounds_toArray, List.set_cons_zero, List.set_cons_succ]
      refine takeD 1 49 (.int .i64 nn) (by exact rfl) rfl (by kernel_rfl) (by kernel_rfl) (by kernel_rfl) (fun _ _ _ h => h) (Or.inl ⟨by rfl, ?_⟩) (by assumption) ?_
      · intro wq hS
        go_simp
      try simp only [Act.put, List.setIfInBounds_toArray, List.set_cons_zero, List.set_cons_succ]
      clear hHeld
      have VS_x := (show Hid _ from v.out.drew)
      have VR_x := (show Hid _ from r.out.drew)
      have SI_x := (show Hid _ from si.out.drew)
      have BB_x := (show Hid _ from hb.out.drew)
      have SS_x := (show Hid _ from cells2 VS_x.out)
      clear v r si po hb
      generalize wr.drew = wx at *
      refine wpAnyH_ready (rs := [2, 6]) (by kernel_rfl) (by simp) ?_
      refine AllReadyH.cons (by exact rfl) (fun K hK => ?_) (AllReadyH.cons (by exact rfl) (fun K hK => ?_) AllReadyH.nil)
      · go_simp
        refine (made_in nn _ (by have := HP.out; omega) (by have := HP.out; omega)).mono ?_
        rintro e wc18 ⟨⟨r1, rfl, ic18⟩, bc18⟩
        have VS_c18 := (show Hid _ from VS_x.out.step bc18)
        have VR_c18 := (show Hid _ from VR_x.out.step bc18)
        have SI_c18 := (show Hid _ from SI_x.out.step bc18)
        have BB_c18 := (show Hid _ from BB_x.out.trans (bc18.mono BB_x.out.size))
        have J1_c18 := (show Hid _ from ic18)
        have SS_c18 := (show Hid _ from cells2 VS_c18.out)
        clear bc18 ic18
        go_wp2_with fail
        refine hK.out _ _ SS_c18.out (fun hHeld => ?_)
        try simp only [Act.put, List.setIfInBounds_toArray, List.set_cons_zero, List.set_cons_succ]
        clear hK K hHeld
        refine wpAnyH_ready (rs := [3, 6]) (by kernel_rfl) (by simp) ?_
        refine AllReadyH.cons (by exact rfl) (fun K hK => ?_) (AllReadyH.cons (by exact rfl) (fun K hK => ?_) AllReadyH.nil)
        · go_simp
          refine (prod_in _ r1 Y nn _ SI_c18.out J1_c18.out (mi_small (by have := HP.out; omega) (by have := HP.out; omega)) (mi_small (by have := HP.out; omega) (by have := HP.out; omega))).mono ?_
          rintro e wc20 ⟨⟨r2, rfl, ic20⟩, bc20⟩
          have VS_c20 := (show Hid _ from VS_c18.out.step bc20)
          have VR_c20 := (show Hid _ from VR_c18.out.step bc20)
          have SI_c20 := (show Hid _ from SI_c18.out.step bc20)
          have J1_c20 := (show Hid _ from J1_c18.out.step bc20)
          have BB_c20 := (show Hid _ from BB_c18.out.trans (bc20.mono BB_c18.out.size))
          have J2_c20 := (show Hid _ from ic20)
          have SS_c20 := (show Hid _ from cells2 VS_c20.out)
          clear bc20 ic20
          go_wp2_with fail
          refine hK.out _ _ SS_c20.out (fun hHeld => ?_)
          try simp only [Act.put, List.setIfInBounds_toArray, List.set_cons_zero, List.set_cons_succ]
          clear hK K hHeld
          refine wpAnyH_ready (rs := [4, 6]) (by kernel_rfl) (by simp) ?_
          refine AllReadyH.cons (by exact rfl) (fun K hK => ?_) (AllReadyH.cons (by exact rfl) (fun K hK => ?_) AllReadyH.nil)
          · go_simp
            refine (made_in 1000000 _ (by omega) (by omega)).mono ?_
            rintro e wc22 ⟨⟨r3, rfl, ic22⟩, bc22⟩
            have VS_c22 := (show Hid _ from VS_c20.out.step bc22)
            have VR_c22 := (show Hid _ from VR_c20.out.step bc22)
            have SI_c22 := (show Hid _ from SI_c20.out.step bc22)
            have J1_c22 := (show Hid _ from J1_c20.out.step bc22)
            have J2_c22 := (show Hid _ from J2_c20.out.step bc22)
            have BB_c22 := (show Hid _ from BB_c20.out.trans (bc22.mono BB_c20.out.size))
            have J3_c22 := (show Hid _ from ic22)
            have SS_c22 := (show Hid _ from cells2 VS_c22.out)
            clear bc22 ic22
            go_wp2_with fail
            refine hK.out _ _ SS_c22.out (fun hHeld => ?_)
            try simp only [Act.put, List.setIfInBounds_toArray, List.set_cons_zero, List.set_cons_succ]
            clear hK K hHeld
            refine wpAnyH_ready (rs := [5, 6]) (by kernel_rfl) (by simp) ?_
            refine AllReadyH.cons (by exact rfl) (fun K hK => ?_) (AllReadyH.cons (by exact rfl) (fun K hK => ?_) AllReadyH.nil)
            · go_simp
              refine (prod_in r2 r3 (Y * nn) 1000000 _ J2_c22.out J3_c22.out (mi_small (by have := HP.out; omega) (by have := HP.out; omega)) (mi_small (by omega) (by omega))).mono ?_
              rintro e wc24 ⟨⟨r4, rfl, ic24⟩, bc24⟩
              have VS_c24 := (show Hid _ from VS_c22.out.step bc24)
              have VR_c24 := (show Hid _ from VR_c22.out.step bc24)
              have SI_c24 := (show Hid _ from SI_c22.out.step bc24)
              have J1_c24 := (show Hid _ from J1_c22.out.step bc24)
              have J2_c24 := (show Hid _ from J2_c22.out.step bc24)
              have J3_c24 := (show Hid _ from J3_c22.out.step bc24)
              have BB_c24 := (show Hid _ from BB_c22.out.trans (bc24.mono BB_c22.out.size))
              have J4_c24 := (show Hid _ from ic24)
              have SS_c24 := (show Hid _ from cells2 VS_c24.out)
              clear bc24 ic24
              go_wp2_with fail
              refine hK.out _ _ SS_c24.out (fun hHeld => ?_)
              try simp only [Act.put, List.setIfInBounds_toArray, List.set_cons_zero, List.set_cons_succ]
              clear hK K hHeld
              refine wpAnyH_ready (rs := [6]) (by kernel_rfl) (by simp) ?_
              refine AllReadyH.cons (by exact rfl) (fun K hK => ?_) AllReadyH.nil
              go_simp
              have VS_c26 := (show Hid _ from VS_c24.out.alloc (.cells #[.bool false, .slice none 0 0] 65))
              have VR_c26 := (show Hid _ from VR_c24.out.alloc (.cells #[.bool false, .slice none 0 0] 65))
              have SI_c26 := (show Hid _ from SI_c24.out.alloc (.cells #[.bool false, .slice none 0 0] 65))
              have J1_c26 := (show Hid _ from J1_c24.out.alloc (.cells #[.bool false, .slice none 0 0] 65))
              have J2_c26 := (show Hid _ from J2_c24.out.alloc (.cells #[.bool false, .slice none 0 0] 65))
              have J3_c26 := (show Hid _ from J3_c24.out.alloc (.cells #[.bool false, .slice none 0 0] 65))
              have J4_c26 := (show Hid _ from J4_c24.out.alloc (.cells #[.bool false, .slice none 0 0] 65))
              have BB_c26 := (show Hid _ from BB_c24.out.alloc BB_c24.out.size (.cells #[.bool false, .slice none 0 0] 65))
              have XV_c26 := (show Hid _ from va_new wc24 [.bool false, .slice none 0 0] 65)
              have HAB : Hid (w.heap.size + 1 < wc24.heap.size) := VS_c24.out.lt
              have SS_c26 := (show Hid _ from cells2 VS_c26.out)
              refine hK.out _ _ SS_c26.out (fun hHeld => ?_)
              try simp only [Act.put, List.setIfInBounds_toArray, List.set_cons_zero, List.set_cons_succ]
              clear hK K hHeld
              change wpAnyH _ _ _ _ _ _ _ _ (wc24.alloc (.cells ([.bool false, .slice none 0 0] : List Value).toArray 65))
              generalize wc24.alloc (.cells ([.bool false, .slice none 0 0] : List Value).toArray 65) = wc26 at *
              generalize wc24.heap.size = ab at *
              obtain ⟨m4, a4, n4, c4, rfl, _⟩ := J4_c26.out.form
              refine wpAnyH_ready (rs := [7]) (by kernel_rfl) (by simp) ?_
              refine AllReadyH.cons (by exact rfl) (fun K hK => ?_) AllReadyH.nil
              refine stAn (by rfl) (by rfl) 65 _ _ (by rfl) ab (by rfl) [.bool false, .slice none 0 0] [.bool m4, .slice a4 n4 c4] (by rfl) 65 XV_c26.out infoW rfl (il_one _ _ _ _) ?_
              intro w9 v9 u9
              have VS9 := (show Hid _ from VS_c26.out.upd u9 (Nat.ne_of_lt HAB.out))
              refine hK.out _ _ (cells2 VS9.out) (fun hHeld => ?_)
              clear hK K hHeld
              refine wpAnyH_done (by kernel_rfl) ?_ _
              refine NoPanic.normal ?_
              have X9 := (show Hid _ from v9)
              have I9 := (show Hid _ from J4_c26.out.upd u9 XV_c26.out (by decide))
              have R9 := (show Hid _ from VR_c26.out.upd u9 (by have := HAB.out; omega))
              have B9 := (show Hid _ from u9.bel BB_c26.out (by have := HAB.out; omega))
              clear v9 u9 VS9
              go_upto_region 9 with fail
              refine wp_region_noPanic ?_
              refine wp_region_held_drew (S := fun w' => w'.cell? ⟨ab, 0, none⟩ = some (.bool m4) ∧ w'.cell? ⟨ab, 1, none⟩ = some (.slice a4 n4 c4) ∧ ab < w'.heap.size) (by kernel_rfl) (cells2 X9.out.drew) (fun hHeld => ?_)
              refine takeD 0 54 (.agg #[.bool m4, .slice a4 n4 c4]) (by exact rfl) rfl (by kernel_rfl) (by kernel_rfl) (by kernel_rfl) (fun _ _ _ h => h) (Or.inl ⟨by rfl, ?_⟩) (by assumption) ?_
              · intro wq hS
                obtain ⟨h1, h2, h3⟩ := hS
                go_simp
              try simp only [Act.put, List.setIfInBounds_toArray, List.set_cons_zero, List.set_cons_succ]
              refine takeD 1 55 (.int .i64 d) (by exact rfl) rfl (by kernel_rfl) (by kernel_rfl) (by kernel_rfl) (fun _ _ _ h => h) (Or.inl ⟨by rfl, ?_⟩) (by assumption) ?_
              · intro wq hS
                go_simp
              try simp only [Act.put, List.setIfInBounds_toArray, List.set_cons_zero, List.set_cons_succ]
              refine takeD 2 56 (.int .u64 d) (by exact rfl) rfl (by kernel_rfl) (by kernel_rfl) (by kernel_rfl) (fun _ _ _ h => h) (Or.inl ⟨by rfl, ?_⟩) (by assumption) ?_
              · intro wq hS
                go_simp
              try simp only [Act.put, List.setIfInBounds_toArray, List.set_cons_zero, List.set_cons_succ]
              refine takeD 6 60 (.int .i64 (mode : Int)) (by exact rfl) rfl (by kernel_rfl) (by kernel_rfl) (by kernel_rfl) (fun _ _ _ h => h) (Or.inl ⟨by rfl, ?_⟩) (by assumption) ?_
              · intro wq hS
                go_simp
              try simp only [Act.put, List.setIfInBounds_toArray, List.set_cons_zero, List.set_cons_succ]
              clear hHeld
              have XX_y := (show Hid _ from X9.out.drew)
              have UP_y := (show Hid _ from I9.out.drew)
              have RV_y := (show Hid _ from R9.out.drew)
              have BB_y := (show Hid _ from B9.out.drew)
              have SS_y := (show Hid _ from cells2 XX_y.out)
              clear X9 I9 R9 B9
              generalize w9.drew = wy at *
              refine wpAnyH_ready (rs := [3]) (by kernel_rfl) (by simp) ?_
              refine AllReadyH.cons (by exact rfl) (fun K hK => ?_) AllReadyH.nil
              go_simp
              refine (word_ok d _ (by have := HP.out; omega) (by have := HP.out; omega)).mono ?_
              rintro e wc14 ⟨⟨u1, rfl, ic14⟩, bc14⟩
              have XX_c14 := (show Hid _ from XX_y.out.step bc14)
              have UP_c14 := (show Hid _ from UP_y.out.step bc14)
              have RV_c14 := (show Hid _ from RV_y.out.step bc14)
              have BB_c14 := (show Hid _ from BB_y.out.trans (bc14.mono BB_y.out.size))
              have N1_c14 := (show Hid _ from ic14)
              have SS_c14 := (show Hid _ from cells2 XX_c14.out)
              clear bc14 ic14
              go_wp2_with fail
              refine hK.out _ _ SS_c14.out (fun hHeld => ?_)
              try simp only [Act.put, List.setIfInBounds_toArray, List.set_cons_zero, List.set_cons_succ]
              clear hK K hHeld
              refine wpAnyH_ready (rs := [4]) (by kernel_rfl) (by simp) ?_
              refine AllReadyH.cons (by exact rfl) (fun K hK => ?_) AllReadyH.nil
              go_simp
              refine (ten_ok 9 _ (by omega)).mono ?_
              rintro e wc15 ⟨⟨u2, rfl, ic15⟩, bc15⟩
              have XX_c15 := (show Hid _ from XX_c14.out.step bc15)
              have UP_c15 := (show Hid _ from UP_c14.out.step bc15)
              have RV_c15 := (show Hid _ from RV_c14.out.step bc15)
              have N1_c15 := (show Hid _ from N1_c14.out.step bc15)
              have BB_c15 := (show Hid _ from BB_c14.out.trans (bc15.mono BB_c14.out.size))
              have N2_c15 := (show Hid _ from ic15)
              have SS_c15 := (show Hid _ from cells2 XX_c15.out)
              clear bc15 ic15
              go_wp2_with fail
              refine hK.out _ _ SS_c15.out (fun hHeld => ?_)
              try simp only [Act.put, List.setIfInBounds_toArray, List.set_cons_zero, List.set_cons_succ]
              clear hK K hHeld
              refine wpAnyH_ready (rs := [5]) (by kernel_rfl) (by simp) ?_
              refine AllReadyH.cons (by exact rfl) (fun K hK => ?_) AllReadyH.nil
              go_simp
              refine (times_ok u1 u2 _ _ _ N1_c15.out N2_c15.out (md_of (k := 18) (by have := HP.out; omega) (by decide)) (ten_md 9 (by omega))).mono ?_
              rintro e wc16 ⟨⟨u3, rfl, ic16⟩, bc16⟩
              have XX_c16 := (show Hid _ from XX_c15.out.step bc16)
              have UP_c16 := (show Hid _ from UP_c15.out.step bc16)
              have RV_c16 := (show Hid _ from RV_c15.out.step bc16)
              have N1_c16 := (show Hid _ from N1_c15.out.step bc16)
              have N2_c16 := (show Hid _ from N2_c15.out.step bc16)
              have BB_c16 := (show Hid _ from BB_c15.out.trans (bc16.mono BB_c15.out.size))
              have N3_c16 := (show Hid _ from ic16)
              have SS_c16 := (show Hid _ from cells2 XX_c16.out)
              clear bc16 ic16
              go_wp2_with fail
              refine hK.out _ _ SS_c16.out (fun hHeld => ?_)
              try simp only [Act.put, List.setIfInBounds_toArray, List.set_cons_zero, List.set_cons_succ]
              clear hK K hHeld
              refine wpAnyH_ready (rs := [7]) (by kernel_rfl) (by simp) ?_
              refine AllReadyH.cons (by exact rfl) (fun K hK => ?_) AllReadyH.nil
              go_simp
              refine (rounded_in _ u3 (Y * nn * 1000000) _ mode _ UP_c16.out N3_c16.out (mi_small (by have := HP.out; omega) (by have := HP.out; omega)) (md_of (k := 60) (by have := HP.out; omega) (by decide)) (by have := HP.out; omega) HM.out).mono ?_
              rintro e wc17 ⟨⟨r9, rfl, ic17⟩, bc17⟩
              have XX_c17 := (show Hid _ from XX_c16.out.step bc17)
              have UP_c17 := (show Hid _ from UP_c16.out.step bc17)
              have RV_c17 := (show Hid _ from RV_c16.out.step bc17)
              have N1_c17 := (show Hid _ from N1_c16.out.step bc17)
              have N2_c17 := (show Hid _ from N2_c16.out.step bc17)
              have N3_c17 := (show Hid _ from N3_c16.out.step bc17)
              have BB_c17 := (show Hid _ from BB_c16.out.trans (bc17.mono BB_c16.out.size))
              have RR_c17 := (show Hid _ from ic17)
              have SS_c17 := (show Hid _ from cells2 XX_c17.out)
              clear bc17 ic17
              go_wp2_with fail
              refine hK.out _ _ SS_c17.out (fun hHeld => ?_)
              try simp only [Act.put, List.setIfInBounds_toArray, List.set_cons_zero, List.set_cons_succ]
              clear hK K hHeld
              obtain ⟨m5, a5, n5, c5, rfl, _⟩ := RR_c17.out.form
              refine wpAnyH_ready (rs := [8]) (by kernel_rfl) (by simp) ?_
              refine AllReadyH.cons (by exact rfl) (fun K hK => ?_) AllReadyH.nil
              refine stAn (by rfl) (by rfl) 65 _ _ (by rfl) w.heap.size (by rfl) [.bool false, .slice none 0 0] [.bool m5, .slice a5 n5 c5] (by rfl) 65 RV_c17.out infoW rfl (il_one _ _ _ _) ?_
              intro wf vf uf
              have XXf := (show Hid _ from XX_c17.out.upd uf (by have := HAB.out; omega))
              refine hK.out _ _ (cells2 XXf.out) (fun hHeld => ?_)
              clear hK K hHeld
              refine wpAnyH_done (by kernel_rfl) ?_ _
              refine NoPanic.normal ?_
              have If := (show Hid _ from RR_c17.out.upd uf RV_c17.out (by decide))
              have Bf := (show Hid _ from uf.bel BB_c17.out (Nat.le_refl _))
              have hld := run_loadVar_row (P := Try.prog) wf w.heap.size 65 65 _ (0, 0) _ vf.blk Try.underlying65 rfl infoW
              go_wp2_with fail
              refine bodyPost_ret (v := .agg #[.bool m5, .slice a5 n5 c5]) (by simp [results, Try.results27, asAddr, hld]) rfl ⟨⟨_, rfl, ?_⟩, Bf.out⟩
              have hIf := If.out
              rw [doc_round Y nn d mode (by have := HP.out; omega) (by have := HP.out; omega), HYY.out] at hIf
              exact hIf
            · go_simp
              have VS_c25 := (show Hid _ from VS_c22.out.alloc (.cells #[.bool false, .slice none 0 0] 65))
              have VR_c25 := (show Hid _ from VR_c22.out.alloc (.cells #[.bool false, .slice none 0 0] 65))
              have SI_c25 := (show Hid _ from SI_c22.out.alloc (.cells #[.bool false, .slice none 0 0] 65))
              have J1_c25 := (show Hid _ from J1_c22.out.alloc (.cells #[.bool false, .slice none 0 0] 65))
              have J2_c25 := (show Hid _ from J2_c22.out.alloc (.cells #[.bool false, .slice none 0 0] 65))
              have J3_c25 := (show Hid _ from J3_c22.out.alloc (.cells #[.bool false, .slice none 0 0] 65))
              have BB_c25 := (show Hid _ from BB_c22.out.alloc BB_c22.out.size (.cells #[.bool false, .slice none 0 0] 65))
              have XV_c25 := (show Hid _ from va_new wc22 [.bool false, .slice none 0 0] 65)
              have HAB : Hid (w.heap.size + 1 < wc22.heap.size) := VS_c22.out.lt
              have SS_c25 := (show Hid _ from cells2 VS_c25.out)
              refine hK.out _ _ SS_c25.out (fun hHeld => ?_)
              try simp only [Act.put, List.setIfInBounds_toArray, List.set_cons_zero, List.set_cons_succ]
              clear hK K hHeld
              change wpAnyH _ _ _ _ _ _ _ _ (wc22.alloc (.cells ([.bool false, .slice none 0 0] : List Value).toArray 65))
              generalize wc22.alloc (.cells ([.bool false, .slice none 0 0] : List Value).toArray 65) = wc25 at *
              generalize wc22.heap.size = ab at *
              refine wpAnyH_ready (rs := [5]) (by kernel_rfl) (by simp) ?_
              refine AllReadyH.cons (by exact rfl) (fun K hK => ?_) AllReadyH.nil
              go_simp
              refine (prod_in r2 r3 (Y * nn) 1000000 _ J2_c25.out J3_c25.out (mi_small (by have := HP.out; omega) (by have := HP.out; omega)) (mi_small (by omega) (by omega))).mono ?_
              rintro e wc27 ⟨⟨r4, rfl, ic27⟩, bc27⟩
              have VS_c27 := (show Hid _ from VS_c25.out.step bc27)
              have VR_c27 := (show Hid _ from VR_c25.out.step bc27)
              have SI_c27 := (show Hid _ from SI_c25.out.step bc27)
              have J1_c27 := (show Hid _ from J1_c25.out.step bc27)
              have J2_c27 := (show Hid _ from J2_c25.out.step bc27)
              have J3_c27 := (show Hid _ from J3_c25.out.step bc27)
              have XV_c27 := (show Hid _ from XV_c25.out.step bc27)
              have BB_c27 := (show Hid _ from BB_c25.out.trans (bc27.mono BB_c25.out.size))
              have J4_c27 := (show Hid _ from ic27)
              have SS_c27 := (show Hid _ from cells2 VS_c27.out)
              clear bc27 ic27
              go_wp2_with fail
              refine hK.out _ _ SS_c27.out (fun hHeld => ?_)
              try simp only [Act.put, List.setIfInBounds_toArray, List.set_cons_zero, List.set_cons_succ]
              clear hK K hHeld
              obtain ⟨m4, a4, n4, c4, rfl, _⟩ := J4_c27.out.form
              refine wpAnyH_ready (rs := [7]) (by kernel_rfl) (by simp) ?_
              refine AllReadyH.cons (by exact rfl) (fun K hK => ?_) AllReadyH.nil
              refine stAn (by rfl) (by rfl) 65 _ _ (by rfl) ab (by rfl) [.bool false, .slice none 0 0] [.bool m4, .slice a4 n4 c4] (by rfl) 65 XV_c27.out infoW rfl (il_one _ _ _ _) ?_
              intro w9 v9 u9
              have VS9 := (show Hid _ from VS_c27.out.upd u9 (Nat.ne_of_lt HAB.out))
              refine hK.out _ _ (cells2 VS9.out) (fun hHeld => ?_)
              clear hK K hHeld
              refine wpAnyH_done (by kernel_rfl) ?_ _
              refine NoPanic.normal ?_
              have X9 := (show Hid _ from v9)
              have I9 := (show Hid _ from J4_c27.out.upd u9 XV_c27.out (by decide))
              have R9 := (show Hid _ from VR_c27.out.upd u9 (by have := HAB.out; omega))
              have B9 := (show Hid _ from u9.bel BB_c27.out (by have := HAB.out; omega))
              clear v9 u9 VS9
              go_upto_region 9 with fail
              refine wp_region_noPanic ?_
              refine wp_region_held_drew (S := fun w' => w'.cell? ⟨ab, 0, none⟩ = some (.bool m4) ∧ w'.cell? ⟨ab, 1, none⟩ = some (.slice a4 n4 c4) ∧ ab < w'.heap.size) (by kernel_rfl) (cells2 X9.out.drew) (fun hHeld => ?_)
              refine takeD 0 54 (.agg #[.bool m4, .slice a4 n4 c4]) (by exact rfl) rfl (by kernel_rfl) (by kernel_rfl) (by kernel_rfl) (fun _ _ _ h => h) (Or.inl ⟨by rfl, ?_⟩) (by assumption) ?_
              · intro wq hS
                obtain ⟨h1, h2, h3⟩ := hS
                go_simp
              try simp only [Act.put, List.setIfInBounds_toArray, List.set_cons_zero, List.set_cons_succ]
              refine takeD 1 55 (.int .i64 d) (by exact rfl) rfl (by kernel_rfl) (by kernel_rfl) (by kernel_rfl) (fun _ _ _ h => h) (Or.inl ⟨by rfl, ?_⟩) (by assumption) ?_
              · intro wq hS
                go_simp
              try simp only [Act.put, List.setIfInBounds_toArray, List.set_cons_zero, List.set_cons_succ]
              refine takeD 2 56 (.int .u64 d) (by exact rfl) rfl (by kernel_rfl) (by kernel_rfl) (by kernel_rfl) (fun _ _ _ h => h) (Or.inl ⟨by rfl, ?_⟩) (by assumption) ?_
              · intro wq hS
                go_simp
              try simp only [Act.put, List.setIfInBounds_toArray, List.set_cons_zero, List.set_cons_succ]
              refine takeD 6 60 (.int .i64 (mode : Int)) (by exact rfl) rfl (by kernel_rfl) (by kernel_rfl) (by kernel_rfl) (fun _ _ _ h => h) (Or.inl ⟨by rfl, ?_⟩) (by assumption) ?_
              · intro wq hS
                go_simp
              try simp only [Act.put, List.setIfInBounds_toArray, List.set_cons_zero, List.set_cons_succ]
              clear hHeld
              have XX_y := (show Hid _ from X9.out.drew)
              have UP_y := (show Hid _ from I9.out.drew)
              have RV_y := (show Hid _ from R9.out.drew)
              have BB_y := (show Hid _ from B9.out.drew)
              have SS_y := (show Hid _ from cells2 XX_y.out)
              clear X9 I9 R9 B9
              generalize w9.drew = wy at *
              refine wpAnyH_ready (rs := [3]) (by kernel_rfl) (by simp) ?_
              refine AllReadyH.cons (by exact rfl) (fun K hK => ?_) AllReadyH.nil
              go_simp
              refine (word_ok d _ (by have := HP.out; omega) (by have := HP.out; omega)).mono ?_
              rintro e wc14 ⟨⟨u1, rfl, ic14⟩, bc14⟩
              have XX_c14 := (show Hid _ from XX_y.out.step bc14)
              have UP_c14 := (show Hid _ from UP_y.out.step bc14)
              have RV_c14 := (show Hid _ from RV_y.out.step bc14)
              have BB_c14 := (show Hid _ from BB_y.out.trans (bc14.mono BB_y.out.size))
              have N1_c14 := (show Hid _ from ic14)
              have SS_c14 := (show Hid _ from cells2 XX_c14.out)
              clear bc14 ic14
              go_wp2_with fail
              refine hK.out _ _ SS_c14.out (fun hHeld => ?_)
              try simp only [Act.put, List.setIfInBounds_toArray, List.set_cons_zero, List.set_cons_succ]
              clear hK K hHeld
              refine wpAnyH_ready (rs := [4]) (by kernel_rfl) (by simp) ?_
              refine AllReadyH.cons (by exact rfl) (fun K hK => ?_) AllReadyH.nil
              go_simp
              refine (ten_ok 9 _ (by omega)).mono ?_
              rintro e wc15 ⟨⟨u2, rfl, ic15⟩, bc15⟩
              have XX_c15 := (show Hid _ from XX_c14.out.step bc15)
              have UP_c15 := (show Hid _ from UP_c14.out.step bc15)
              have RV_c15 := (show Hid _ from RV_c14.out.step bc15)
              have N1_c15 := (show Hid _ from N1_c14.out.step bc15)
              have BB_c15 := (show Hid _ from BB_c14.out.trans (bc15.mono BB_c14.out.size))
              have N2_c15 := (show Hid _ from ic15)
              have SS_c15 := (show Hid _ from cells2 XX_c15.out)
              clear bc15 ic15
              go_wp2_with fail
              refine hK.out _ _ SS_c15.out (fun hHeld => ?_)
              try simp only [Act.put, List.setIfInBounds_toArray, List.set_cons_zero, List.set_cons_succ]
              clear hK K hHeld
              refine wpAnyH_ready (rs := [5]) (by kernel_rfl) (by simp) ?_
              refine AllReadyH.cons (by exact rfl) (fun K hK => ?_) AllReadyH.nil
              go_simp
              refine (times_ok u1 u2 _ _ _ N1_c15.out N2_c15.out (md_of (k := 18) (by have := HP.out; omega) (by decide)) (ten_md 9 (by omega))).mono ?_
              rintro e wc16 ⟨⟨u3, rfl, ic16⟩, bc16⟩
              have XX_c16 := (show Hid _ from XX_c15.out.step bc16)
              have UP_c16 := (show Hid _ from UP_c15.out.step bc16)
              have RV_c16 := (show Hid _ from RV_c15.out.step bc16)
              have N1_c16 := (show Hid _ from N1_c15.out.step bc16)
              have N2_c16 := (show Hid _ from N2_c15.out.step bc16)
              have BB_c16 := (show Hid _ from BB_c15.out.trans (bc16.mono BB_c15.out.size))
              have N3_c16 := (show Hid _ from ic16)
              have SS_c16 := (show Hid _ from cells2 XX_c16.out)
              clear bc16 ic16
              go_wp2_with fail
              refine hK.out _ _ SS_c16.out (fun hHeld => ?_)
              try simp only [Act.put, List.setIfInBounds_toArray, List.set_cons_zero, List.set_cons_succ]
              clear hK K hHeld
              refine wpAnyH_ready (rs := [7]) (by kernel_rfl) (by simp) ?_
              refine AllReadyH.cons (by exact rfl) (fun K hK => ?_) AllReadyH.nil
              go_simp
              refine (rounded_in _ u3 (Y * nn * 1000000) _ mode _ UP_c16.out N3_c16.out (mi_small (by have := HP.out; omega) (by have := HP.out; omega)) (md_of (k := 60) (by have := HP.out; omega) (by decide)) (by have := HP.out; omega) HM.out).mono ?_
              rintro e wc17 ⟨⟨r9, rfl, ic17⟩, bc17⟩
              have XX_c17 := (show Hid _ from XX_c16.out.step bc17)
              have UP_c17 := (show Hid _ from UP_c16.out.step bc17)
              have RV_c17 := (show Hid _ from RV_c16.out.step bc17)
              have N1_c17 := (show Hid _ from N1_c16.out.step bc17)
              have N2_c17 := (show Hid _ from N2_c16.out.step bc17)
              have N3_c17 := (show Hid _ from N3_c16.out.step bc17)
              have BB_c17 := (show Hid _ from BB_c16.out.trans (bc17.mono BB_c16.out.size))
              have RR_c17 := (show Hid _ from ic17)
              have SS_c17 := (show Hid _ from cells2 XX_c17.out)
              clear bc17 ic17
              go_wp2_with fail
              refine hK.out _ _ SS_c17.out (fun hHeld => ?_)
              try simp only [Act.put, List.setIfInBounds_toArray, List.set_cons_zero, List.set_cons_succ]
              clear hK K hHeld
              obtain ⟨m5, a5, n5, c5, rfl, _⟩ := RR_c17.out.form
              refine wpAnyH_ready (rs := [8]) (by kernel_rfl) (by simp) ?_
              refine AllReadyH.cons (by exact rfl) (fun K hK => ?_) AllReadyH.nil
              refine stAn (by rfl) (by rfl) 65 _ _ (by rfl) w.heap.size (by rfl) [.bool false, .slice none 0 0] [.bool m5, .slice a5 n5 c5] (by rfl) 65 RV_c17.out infoW rfl (il_one _ _ _ _) ?_
              intro wf vf uf
              have XXf := (show Hid _ from XX_c17.out.upd uf (by have := HAB.out; omega))
              refine hK.out _ _ (cells2 XXf.out) (fun hHeld => ?_)
              clear hK K hHeld
              refine wpAnyH_done (by kernel_rfl) ?_ _
              refine NoPanic.normal ?_
              have If := (show Hid _ from RR_c17.out.upd uf RV_c17.out (by decide))
              have Bf := (show Hid _ from uf.bel BB_c17.out (Nat.le_refl _))
              have hld := run_loadVar_row (P := Try.prog) wf w.heap.size 65 65 _ (0, 0) _ vf.blk Try.underlying65 rfl infoW
              go_wp2_with fail
              refine bodyPost_ret (v := .agg #[.bool m5, .slice a5 n5 c5]) (by simp [results, Try.results27, asAddr, hld]) rfl ⟨⟨_, rfl, ?_⟩, Bf.out⟩
              have hIf := If.out
              rw [doc_round Y nn d mode (by have := HP.out; omega) (by have := HP.out; omega), HYY.out] at hIf
              exact hIf
          · go_simp
            have VS_c23 := (show Hid _ from VS_c20.out.alloc (.cells #[.bool false, .slice none 0 0] 65))
            have VR_c23 := (show Hid _ from VR_c20.out.alloc (.cells #[.bool false, .slice none 0 0] 65))
            have SI_c23 := (show Hid _ from SI_c20.out.alloc (.cells #[.bool false, .slice none 0 0] 65))
            have J1_c23 := (show Hid _ from J1_c20.out.alloc (.cells #[.bool false, .slice none 0 0] 65))
            have J2_c23 := (show Hid _ from J2_c20.out.alloc (.cells #[.bool false, .slice none 0 0] 65))
            have BB_c23 := (show Hid _ from BB_c20.out.alloc BB_c20.out.size (.cells #[.bool false, .slice none 0 0] 65))
            have XV_c23 := (show Hid _ from va_new wc20 [.bool false, .slice none 0 0] 65)
            have HAB : Hid (w.heap.size + 1 < wc20.heap.size) := VS_c20.out.lt
            have SS_c23 := (show Hid _ from cells2 VS_c23.out)
            refine hK.out _ _ SS_c23.out (fun hHeld => ?_)
            try simp only [Act.put, List.setIfInBounds_toArray, List.set_cons_zero, List.set_cons_succ]
            clear hK K hHeld
            change wpAnyH _ _ _ _ _ _ _ _ (wc20.alloc (.cells ([.bool false, .slice none 0 0] : List Value).toArray 65))
            generalize wc20.alloc (.cells ([.bool false, .slice none 0 0] : List Value).toArray 65) = wc23 at *
            generalize wc20.heap.size = ab at *
            refine wpAnyH_ready (rs := [4]) (by kernel_rfl) (by simp) ?_
            refine AllReadyH.cons (by exact rfl) (fun K hK => ?_) AllReadyH.nil
            go_simp
            refine (made_in 1000000 _ (by omega) (by omega)).mono ?_
            rintro e wc28 ⟨⟨r3, rfl, ic28⟩, bc28⟩
            have VS_c28 := (show Hid _ from VS_c23.out.step bc28)
            have VR_c28 := (show Hid _ from VR_c23.out.step bc28)
            have SI_c28 := (show Hid _ from SI_c23.out.step bc28)
            have J1_c28 := (show Hid _ from J1_c23.out.step bc28)
            have J2_c28 := (show Hid _ from J2_c23.out.step bc28)
            have XV_c28 := (show Hid _ from XV_c23.out.step bc28)
            have BB_c28 := (show Hid _ from BB_c23.out.trans (bc28.mono BB_c23.out.size))
            have J3_c28 := (show Hid _ from ic28)
            have SS_c28 := (show Hid _ from cells2 VS_c28.out)
            clear bc28 ic28
            go_wp2_with fail
            refine hK.out _ _ SS_c28.out (fun hHeld => ?_)
            try simp only [Act.put, List.setIfInBounds_toArray, List.set_cons_zero, List.set_cons_succ]
            clear hK K hHeld
            refine wpAnyH_ready (rs := [5]) (by kernel_rfl) (by simp) ?_
            refine AllReadyH.cons (by exact rfl) (fun K hK => ?_) AllReadyH.nil
            go_simp
            refine (prod_in r2 r3 (Y * nn) 1000000 _ J2_c28.out J3_c28.out (mi_small (by have := HP.out; omega) (by have := HP.out; omega)) (mi_small (by omega) (by omega))).mono ?_
            rintro e wc29 ⟨⟨r4, rfl, ic29⟩, bc29⟩
            have VS_c29 := (show Hid _ from VS_c28.out.step bc29)
            have VR_c29 := (show Hid _ from VR_c28.out.step bc29)
            have SI_c29 := (show Hid _ from SI_c28.out.step bc29)
            have J1_c29 := (show Hid _ from J1_c28.out.step bc29)
            have J2_c29 := (show Hid _ from J2_c28.out.step bc29)
            have XV_c29 := (show Hid _ from XV_c28.out.step bc29)
            have J3_c29 := (show Hid _ from J3_c28.out.step bc29)
            have BB_c29 := (show Hid _ from BB_c28.out.trans (bc29.mono BB_c28.out.size))
            have J4_c29 := (show Hid _ from ic29)
            have SS_c29 := (show Hid _ from cells2 VS_c29.out)
            clear bc29 ic29
            go_wp2_with fail
            refine hK.out _ _ SS_c29.out (fun hHeld => ?_)
            try simp only [Act.put, List.setIfInBounds_toArray, List.set_cons_zero, List.set_cons_succ]
            clear hK K hHeld
            obtain ⟨m4, a4, n4, c4, rfl, _⟩ := J4_c29.out.form
            refine wpAnyH_ready (rs := [7]) (by kernel_rfl) (by simp) ?_
            refine AllReadyH.cons (by exact rfl) (fun K hK => ?_) AllReadyH.nil
            refine stAn (by rfl) (by rfl) 65 _ _ (by rfl) ab (by rfl) [.bool false, .slice none 0 0] [.bool m4, .slice a4 n4 c4] (by rfl) 65 XV_c29.out infoW rfl (il_one _ _ _ _) ?_
            intro w9 v9 u9
            have VS9 := (show Hid _ from VS_c29.out.upd u9 (Nat.ne_of_lt HAB.out))
            refine hK.out _ _ (cells2 VS9.out) (fun hHeld => ?_)
            clear hK K hHeld
            refine wpAnyH_done (by kernel_rfl) ?_ _
            refine NoPanic.normal ?_
            have X9 := (show Hid _ from v9)
            have I9 := (show Hid _ from J4_c29.out.upd u9 XV_c29.out (by decide))
            have R9 := (show Hid _ from VR_c29.out.upd u9 (by have := HAB.out; omega))
            have B9 := (show Hid _ from u9.bel BB_c29.out (by have := HAB.out; omega))
            clear v9 u9 VS9
            go_upto_region 9 with fail
            refine wp_region_noPanic ?_
            refine wp_region_held_drew (S := fun w' => w'.cell? ⟨ab, 0, none⟩ = some (.bool m4) ∧ w'.cell? ⟨ab, 1, none⟩ = some (.slice a4 n4 c4) ∧ ab < w'.heap.size) (by kernel_rfl) (cells2 X9.out.drew) (fun hHeld => ?_)
            refine takeD 0 54 (.agg #[.bool m4, .slice a4 n4 c4]) (by exact rfl) rfl (by kernel_rfl) (by kernel_rfl) (by kernel_rfl) (fun _ _ _ h => h) (Or.inl ⟨by rfl, ?_⟩) (by assumption) ?_
            · intro wq hS
              obtain ⟨h1, h2, h3⟩ := hS
              go_simp
            try simp only [Act.put, List.setIfInBounds_toArray, List.set_cons_zero, List.set_cons_succ]
            refine takeD 1 55 (.int .i64 d) (by exact rfl) rfl (by kernel_rfl) (by kernel_rfl) (by kernel_rfl) (fun _ _ _ h => h) (Or.inl ⟨by rfl, ?_⟩) (by assumption) ?_
            · intro wq hS
              go_simp
            try simp only [Act.put, List.setIfInBounds_toArray, List.set_cons_zero, List.set_cons_succ]
            refine takeD 2 56 (.int .u64 d) (by exact rfl) rfl (by kernel_rfl) (by kernel_rfl) (by kernel_rfl) (fun _ _ _ h => h) (Or.inl ⟨by rfl, ?_⟩) (by assumption) ?_
            · intro wq hS
              go_simp
            try simp only [Act.put, List.setIfInBounds_toArray, List.set_cons_zero, List.set_cons_succ]
            refine takeD 6 60 (.int .i64 (mode : Int)) (by exact rfl) rfl (by kernel_rfl) (by kernel_rfl) (by kernel_rfl) (fun _ _ _ h => h) (Or.inl ⟨by rfl, ?_⟩) (by assumption) ?_
            · intro wq hS
              go_simp
            try simp only [Act.put, List.setIfInBounds_toArray, List.set_cons_zero, List.set_cons_succ]
            clear hHeld
            have XX_y := (show Hid _ from X9.out.drew)
            have UP_y := (show Hid _ from I9.out.drew)
            have RV_y := (show Hid _ from R9.out.drew)
            have BB_y := (show Hid _ from B9.out.drew)
            have SS_y := (show Hid _ from cells2 XX_y.out)
            clear X9 I9 R9 B9
            generalize w9.drew = wy at *
            refine wpAnyH_ready (rs := [3]) (by kernel_rfl) (by simp) ?_
            refine AllReadyH.cons (by exact rfl) (fun K hK => ?_) AllReadyH.nil
            go_simp
            refine (word_ok d _ (by have := HP.out; omega) (by have := HP.out; omega)).mono ?_
            rintro e wc14 ⟨⟨u1, rfl, ic14⟩, bc14⟩
            have XX_c14 := (show Hid _ from XX_y.out.step bc14)
            have UP_c14 := (show Hid _ from UP_y.out.step bc14)
            have RV_c14 := (show Hid _ from RV_y.out.step bc14)
            have BB_c14 := (show Hid _ from BB_y.out.trans (bc14.mono BB_y.out.size))
            have N1_c14 := (show Hid _ from ic14)
            have SS_c14 := (show Hid _ from cells2 XX_c14.out)
            clear bc14 ic14
            go_wp2_with fail
            refine hK.out _ _ SS_c14.out (fun hHeld => ?_)
            try simp only [Act.put, List.setIfInBounds_toArray, List.set_cons_zero, List.set_cons_succ]
            clear hK K hHeld
            refine wpAnyH_ready (rs := [4]) (by kernel_rfl) (by simp) ?_
            refine AllReadyH.cons (by exact rfl) (fun K hK => ?_) AllReadyH.nil
            go_simp
            refine (ten_ok 9 _ (by omega)).mono ?_
            rintro e wc15 ⟨⟨u2, rfl, ic15⟩, bc15⟩
            have XX_c15 := (show Hid _ from XX_c14.out.step bc15)
            have UP_c15 := (show Hid _ from UP_c14.out.step bc15)
            have RV_c15 := (show Hid _ from RV_c14.out.step bc15)
            have N1_c15 := (show Hid _ from N1_c14.out.step bc15)
            have BB_c15 := (show Hid _ from BB_c14.out.trans (bc15.mono BB_c14.out.size))
            have N2_c15 := (show Hid _ from ic15)
            have SS_c15 := (show Hid _ from cells2 XX_c15.out)
            clear bc15 ic15
            go_wp2_with fail
            refine hK.out _ _ SS_c15.out (fun hHeld => ?_)
            try simp only [Act.put, List.setIfInBounds_toArray, List.set_cons_zero, List.set_cons_succ]
            clear hK K hHeld
            refine wpAnyH_ready (rs := [5]) (by kernel_rfl) (by simp) ?_
            refine AllReadyH.cons (by exact rfl) (fun K hK => ?_) AllReadyH.nil
            go_simp
            refine (times_ok u1 u2 _ _ _ N1_c15.out N2_c15.out (md_of (k := 18) (by have := HP.out; omega) (by decide)) (ten_md 9 (by omega))).mono ?_
            rintro e wc16 ⟨⟨u3, rfl, ic16⟩, bc16⟩
            have XX_c16 := (show Hid _ from XX_c15.out.step bc16)
            have UP_c16 := (show Hid _ from UP_c15.out.step bc16)
            have RV_c16 := (show Hid _ from RV_c15.out.step bc16)
            have N1_c16 := (show Hid _ from N1_c15.out.step bc16)
            have N2_c16 := (show Hid _ from N2_c15.out.step bc16)
            have BB_c16 := (show Hid _ from BB_c15.out.trans (bc16.mono BB_c15.out.size))
            have N3_c16 := (show Hid _ from ic16)
            have SS_c16 := (show Hid _ from cells2 XX_c16.out)
            clear bc16 ic16
            go_wp2_with fail
            refine hK.out _ _ SS_c16.out (fun hHeld => ?_)
            try simp only [Act.put, List.setIfInBounds_toArray, List.set_cons_zero, List.set_cons_succ]
            clear hK K hHeld
            refine wpAnyH_ready (rs := [7]) (by kernel_rfl) (by simp) ?_
            refine AllReadyH.cons (by exact rfl) (fun K hK => ?_) AllReadyH.nil
            go_simp
            refine (rounded_in _ u3 (Y * nn * 1000000) _ mode _ UP_c16.out N3_c16.out (mi_small (by have := HP.out; omega) (by have := HP.out; omega)) (md_of (k := 60) (by have := HP.out; omega) (by decide)) (by have := HP.out; omega) HM.out).mono ?_
            rintro e wc17 ⟨⟨r9, rfl, ic17⟩, bc17⟩
            have XX_c17 := (show Hid _ from XX_c16.out.step bc17)
            have UP_c17 := (show Hid _ from UP_c16.out.step bc17)
            have RV_c17 := (show Hid _ from RV_c16.out.step bc17)
            have N1_c17 := (show Hid _ from N1_c16.out.step bc17)
            have N2_c17 := (show Hid _ from N2_c16.out.step bc17)
            have N3_c17 := (show Hid _ from N3_c16.out.step bc17)
            have BB_c17 := (show Hid _ from BB_c16.out.trans (bc17.mono BB_c16.out.size))
            have RR_c17 := (show Hid _ from ic17)
            have SS_c17 := (show Hid _ from cells2 XX_c17.out)
            clear bc17 ic17
            go_wp2_with fail
            refine hK.out _ _ SS_c17.out (fun hHeld => ?_)
            try simp only [Act.put, List.setIfInBounds_toArray, List.set_cons_zero, List.set_cons_succ]
            clear hK K hHeld
            obtain ⟨m5, a5, n5, c5, rfl, _⟩ := RR_c17.out.form
            refine wpAnyH_ready (rs := [8]) (by kernel_rfl) (by simp) ?_
            refine AllReadyH.cons (by exact rfl) (fun K hK => ?_) AllReadyH.nil
            refine stAn (by rfl) (by rfl) 65 _ _ (by rfl) w.heap.size (by rfl) [.bool false, .slice none 0 0] [.bool m5, .slice a5 n5 c5] (by rfl) 65 RV_c17.out infoW rfl (il_one _ _ _ _) ?_
            intro wf vf uf
            have XXf := (show Hid _ from XX_c17.out.upd uf (by have := HAB.out; omega))
            refine hK.out _ _ (cells2 XXf.out) (fun hHeld => ?_)
            clear hK K hHeld
            refine wpAnyH_done (by kernel_rfl) ?_ _
            refine NoPanic.normal ?_
            have If := (show Hid _ from RR_c17.out.upd uf RV_c17.out (by decide))
            have Bf := (show Hid _ from uf.bel BB_c17.out (Nat.le_refl _))
            have hld := run_loadVar_row (P := Try.prog) wf w.heap.size 65 65 _ (0, 0) _ vf.blk Try.underlying65 rfl infoW
            go_wp2_with fail
            refine bodyPost_ret (v := .agg #[.bool m5, .slice a5 n5 c5]) (by simp [results, Try.results27, asAddr, hld]) rfl ⟨⟨_, rfl, ?_⟩, Bf.out⟩
            have hIf := If.out
            rw [doc_round Y nn d mode (by have := HP.out; omega) (by have := HP.out; omega), HYY.out] at hIf
            exact hIf
        · go_simp
          have VS_c21 := (show Hid _ from VS_c18.out.alloc (.cells #[.bool false, .slice none 0 0] 65))
          have VR_c21 := (show Hid _ from VR_c18.out.alloc (.cells #[.bool false, .slice none 0 0] 65))
          have SI_c21 := (show Hid _ from SI_c18.out.alloc (.cells #[.bool false, .slice none 0 0] 65))
          have J1_c21 := (show Hid _ from J1_c18.out.alloc (.cells #[.bool false, .slice none 0 0] 65))
          have BB_c21 := (show Hid _ from BB_c18.out.alloc BB_c18.out.size (.cells #[.bool false, .slice none 0 0] 65))
          have XV_c21 := (show Hid _ from va_new wc18 [.bool false, .slice none 0 0] 65)
          have HAB : Hid (w.heap.size + 1 < wc18.heap.size) := VS_c18.out.lt
          have SS_c21 := (show Hid _ from cells2 VS_c21.out)
          refine hK.out _ _ SS_c21.out (fun hHeld => ?_)
          try simp only [Act.put, List.setIfInBounds_toArray, List.set_cons_zero, List.set_cons_succ]
          clear hK K hHeld
          change wpAnyH _ _ _ _ _ _ _ _ (wc18.alloc (.cells ([.bool false, .slice none 0 0] : List Value).toArray 65))
          generalize wc18.alloc (.cells ([.bool false, .slice none 0 0] : List Value).toArray 65) = wc21 at *
          generalize wc18.heap.size = ab at *
          refine wpAnyH_ready (rs := [3]) (by kernel_rfl) (by simp) ?_
          refine AllReadyH.cons (by exact rfl) (fun K hK => ?_) AllReadyH.nil
          go_simp
          refine (prod_in _ r1 Y nn _ SI_c21.out J1_c21.out (mi_small (by have := HP.out; omega) (by have := HP.out; omega)) (mi_small (by have := HP.out; omega) (by have := HP.out; omega))).mono ?_
          rintro e wc30 ⟨⟨r2, rfl, ic30⟩, bc30⟩
          have VS_c30 := (show Hid _ from VS_c21.out.step bc30)
          have VR_c30 := (show Hid _ from VR_c21.out.step bc30)
          have SI_c30 := (show Hid _ from SI_c21.out.step bc30)
          have J1_c30 := (show Hid _ from J1_c21.out.step bc30)
          have XV_c30 := (show Hid _ from XV_c21.out.step bc30)
          have BB_c30 := (show Hid _ from BB_c21.out.trans (bc30.mono BB_c21.out.size))
          have J2_c30 := (show Hid _ from ic30)
          have SS_c30 := (show Hid _ from cells2 VS_c30.out)
          clear bc30 ic30
          go_wp2_with fail
          refine hK.out _ _ SS_c30.out (fun hHeld => ?_)
          try simp only [Act.put, List.setIfInBounds_toArray, List.set_cons_zero, List.set_cons_succ]
          clear hK K hHeld
          refine wpAnyH_ready (rs := [4]) (by kernel_rfl) (by simp) ?_
          refine AllReadyH.cons (by exact rfl) (fun K hK => ?_) AllReadyH.nil
          go_simp
          refine (made_in 1000000 _ (by omega) (by omega)).mono ?_
          rintro e wc31 ⟨⟨r3, rfl, ic31⟩, bc31⟩
          have VS_c31 := (show Hid _ from VS_c30.out.step bc31)
          have VR_c31 := (show Hid _ from VR_c30.out.step bc31)
          have SI_c31 := (show Hid _ from SI_c30.out.step bc31)
          have J1_c31 := (show Hid _ from J1_c30.out.step bc31)
          have XV_c31 := (show Hid _ from XV_c30.out.step bc31)
          have J2_c31 := (show Hid _ from J2_c30.out.step bc31)
          have BB_c31 := (show Hid _ from BB_c30.out.trans (bc31.mono BB_c30.out.size))
          have J3_c31 := (show Hid _ from ic31)
          have SS_c31 := (show Hid _ from cells2 VS_c31.out)
          clear bc31 ic31
          go_wp2_with fail
          refine hK.out _ _ SS_c31.out (fun hHeld => ?_)
          try simp only [Act.put, List.setIfInBounds_toArray, List.set_cons_zero, List.set_cons_succ]
          clear hK K hHeld
          refine wpAnyH_ready (rs := [5]) (by kernel_rfl) (by simp) ?_
          refine AllReadyH.cons (by exact rfl) (fun K hK => ?_) AllReadyH.nil
          go_simp
          refine (prod_in r2 r3 (Y * nn) 1000000 _ J2_c31.out J3_c31.out (mi_small (by have := HP.out; omega) (by have := HP.out; omega)) (mi_small (by omega) (by omega))).mono ?_
          rintro e wc32 ⟨⟨r4, rfl, ic32⟩, bc32⟩
          have VS_c32 := (show Hid _ from VS_c31.out.step bc32)
          have VR_c32 := (show Hid _ from VR_c31.out.step bc32)
          have SI_c32 := (show Hid _ from SI_c31.out.step bc32)
          have J1_c32 := (show Hid _ from J1_c31.out.step bc32)
          have XV_c32 := (show Hid _ from XV_c31.out.step bc32)
          have J2_c32 := (show Hid _ from J2_c31.out.step bc32)
          have J3_c32 := (show Hid _ from J3_c31.out.step bc32)
          have BB_c32 := (show Hid _ from BB_c31.out.trans (bc32.mono BB_c31.out.size))
          have J4_c32 := (show Hid _ from ic32)
          have SS_c32 := (show Hid _ from cells2 VS_c32.out)
          clear bc32 ic32
          go_wp2_with fail
          refine hK.out _ _ SS_c32.out (fun hHeld => ?_)
          try simp only [Act.put, List.setIfInBounds_toArray, List.set_cons_zero, List.set_cons_succ]
          clear hK K hHeld
          obtain ⟨m4, a4, n4, c4, rfl, _⟩ := J4_c32.out.form
          refine wpAnyH_ready (rs := [7]) (by kernel_rfl) (by simp) ?_
          refine AllReadyH.cons (by exact rfl) (fun K hK => ?_) AllReadyH.nil
          refine stAn (by rfl) (by rfl) 65 _ _ (by rfl) ab (by rfl) [.bool false, .slice none 0 0] [.bool m4, .slice a4 n4 c4] (by rfl) 65 XV_c32.out infoW rfl (il_one _ _ _ _) ?_
          intro w9 v9 u9
          have VS9 := (show Hid _ from VS_c32.out.upd u9 (Nat.ne_of_lt HAB.out))
          refine hK.out _ _ (cells2 VS9.out) (fun hHeld => ?_)
          clear hK K hHeld
          refine wpAnyH_done (by kernel_rfl) ?_ _
          refine NoPanic.normal ?_
          have X9 := (show Hid _ from v9)
          have I9 := (show Hid _ from J4_c32.out.upd u9 XV_c32.out (by decide))
          have R9 := (show Hid _ from VR_c32.out.upd u9 (by have := HAB.out; omega))
          have B9 := (show Hid _ from u9.bel BB_c32.out (by have := HAB.out; omega))
          clear v9 u9 VS9
          go_upto_region 9 with fail
          refine wp_region_noPanic ?_
          refine wp_region_held_drew (S := fun w' => w'.cell? ⟨ab, 0, none⟩ = some (.bool m4) ∧ w'.cell? ⟨ab, 1, none⟩ = some (.slice a4 n4 c4) ∧ ab < w'.heap.size) (by kernel_rfl) (cells2 X9.out.drew) (fun hHeld => ?_)
          refine takeD 0 54 (.agg #[.bool m4, .slice a4 n4 c4]) (by exact rfl) rfl (by kernel_rfl) (by kernel_rfl) (by kernel_rfl) (fun _ _ _ h => h) (Or.inl ⟨by rfl, ?_⟩) (by assumption) ?_
          · intro wq hS
            obtain ⟨h1, h2, h3⟩ := hS
            go_simp
          try simp only [Act.put, List.setIfInBounds_toArray, List.set_cons_zero, List.set_cons_succ]
          refine takeD 1 55 (.int .i64 d) (by exact rfl) rfl (by kernel_rfl) (by kernel_rfl) (by kernel_rfl) (fun _ _ _ h => h) (Or.inl ⟨by rfl, ?_⟩) (by assumption) ?_
          · intro wq hS
            go_simp
          try simp only [Act.put, List.setIfInBounds_toArray, List.set_cons_zero, List.set_cons_succ]
          refine takeD 2 56 (.int .u64 d) (by exact rfl) rfl (by kernel_rfl) (by kernel_rfl) (by kernel_rfl) (fun _ _ _ h => h) (Or.inl ⟨by rfl, ?_⟩) (by assumption) ?_
          · intro wq hS
            go_simp
          try simp only [Act.put, List.setIfInBounds_toArray, List.set_cons_zero, List.set_cons_succ]
          refine takeD 6 60 (.int .i64 (mode : Int)) (by exact rfl) rfl (by kernel_rfl) (by kernel_rfl) (by kernel_rfl) (fun _ _ _ h => h) (Or.inl ⟨by rfl, ?_⟩) (by assumption) ?_
          · intro wq hS
            go_simp
          try simp only [Act.put, List.setIfInBounds_toArray, List.set_cons_zero, List.set_cons_succ]
          clear hHeld
          have XX_y := (show Hid _ from X9.out.drew)
          have UP_y := (show Hid _ from I9.out.drew)
          have RV_y := (show Hid _ from R9.out.drew)
          have BB_y := (show Hid _ from B9.out.drew)
          have SS_y := (show Hid _ from cells2 XX_y.out)
          clear X9 I9 R9 B9
          generalize w9.drew = wy at *
          refine wpAnyH_ready (rs := [3]) (by kernel_rfl) (by simp) ?_
          refine AllReadyH.cons (by exact rfl) (fun K hK => ?_) AllReadyH.nil
          go_simp
          refine (word_ok d _ (by have := HP.out; omega) (by have := HP.out; omega)).mono ?_
          rintro e wc14 ⟨⟨u1, rfl, ic14⟩, bc14⟩
          have XX_c14 := (show Hid _ from XX_y.out.step bc14)
          have UP_c14 := (show Hid _ from UP_y.out.step bc14)
          have RV_c14 := (show Hid _ from RV_y.out.step bc14)
          have BB_c14 := (show Hid _ from BB_y.out.trans (bc14.mono BB_y.out.size))
          have N1_c14 := (show Hid _ from ic14)
          have SS_c14 := (show Hid _ from cells2 XX_c14.out)
          clear bc14 ic14
          go_wp2_with fail
          refine hK.out _ _ SS_c14.out (fun hHeld => ?_)
          try simp only [Act.put, List.setIfInBounds_toArray, List.set_cons_zero, List.set_cons_succ]
          clear hK K hHeld
          refine wpAnyH_ready (rs := [4]) (by kernel_rfl) (by simp) ?_
          refine AllReadyH.cons (by exact rfl) (fun K hK => ?_) AllReadyH.nil
          go_simp
          refine (ten_ok 9 _ (by omega)).mono ?_
          rintro e wc15 ⟨⟨u2, rfl, ic15⟩, bc15⟩
          have XX_c15 := (show Hid _ from XX_c14.out.step bc15)
          have UP_c15 := (show Hid _ from UP_c14.out.step bc15)
          have RV_c15 := (show Hid _ from RV_c14.out.step bc15)
          have N1_c15 := (show Hid _ from N1_c14.out.step bc15)
          have BB_c15 := (show Hid _ from BB_c14.out.trans (bc15.mono BB_c14.out.size))
          have N2_c15 := (show Hid _ from ic15)
          have SS_c15 := (show Hid _ from cells2 XX_c15.out)
          clear bc15 ic15
          go_wp2_with fail
          refine hK.out _ _ SS_c15.out (fun hHeld => ?_)
          try simp only [Act.put, List.setIfInBounds_toArray, List.set_cons_zero, List.set_cons_succ]
          clear hK K hHeld
          refine wpAnyH_ready (rs := [5]) (by kernel_rfl) (by simp) ?_
          refine AllReadyH.cons (by exact rfl) (fun K hK => ?_) AllReadyH.nil
          go_simp
          refine (times_ok u1 u2 _ _ _ N1_c15.out N2_c15.out (md_of (k := 18) (by have := HP.out; omega) (by decide)) (ten_md 9 (by omega))).mono ?_
          rintro e wc16 ⟨⟨u3, rfl, ic16⟩, bc16⟩
          have XX_c16 := (show Hid _ from XX_c15.out.step bc16)
          have UP_c16 := (show Hid _ from UP_c15.out.step bc16)
          have RV_c16 := (show Hid _ from RV_c15.out.step bc16)
          have N1_c16 := (show Hid _ from N1_c15.out.step bc16)
          have N2_c16 := (show Hid _ from N2_c15.out.step bc16)
          have BB_c16 := (show Hid _ from BB_c15.out.trans (bc16.mono BB_c15.out.size))
          have N3_c16 := (show Hid _ from ic16)
          have SS_c16 := (show Hid _ from cells2 XX_c16.out)
          clear bc16 ic16
          go_wp2_with fail
          refine hK.out _ _ SS_c16.out (fun hHeld => ?_)
          try simp only [Act.put, List.setIfInBounds_toArray, List.set_cons_zero, List.set_cons_succ]
          clear hK K hHeld
          refine wpAnyH_ready (rs := [7]) (by kernel_rfl) (by simp) ?_
          refine AllReadyH.cons (by exact rfl) (fun K hK => ?_) AllReadyH.nil
          go_simp
          refine (rounded_in _ u3 (Y * nn * 1000000) _ mode _ UP_c16.out N3_c16.out (mi_small (by have := HP.out; omega) (by have := HP.out; omega)) (md_of (k := 60) (by have := HP.out; omega) (by decide)) (by have := HP.out; omega) HM.out).mono ?_
          rintro e wc17 ⟨⟨r9, rfl, ic17⟩, bc17⟩
          have XX_c17 := (show Hid _ from XX_c16.out.step bc17)
          have UP_c17 := (show Hid _ from UP_c16.out.step bc17)
          have RV_c17 := (show Hid _ from RV_c16.out.step bc17)
          have N1_c17 := (show Hid _ from N1_c16.out.step bc17)
          have N2_c17 := (show Hid _ from N2_c16.out.step bc17)
          have N3_c17 := (show Hid _ from N3_c16.out.step bc17)
          have BB_c17 := (show Hid _ from BB_c16.out.trans (bc17.mono BB_c16.out.size))
          have RR_c17 := (show Hid _ from ic17)
          have SS_c17 := (show Hid _ from cells2 XX_c17.out)
          clear bc17 ic17
          go_wp2_with fail
          refine hK.out _ _ SS_c17.out (fun hHeld => ?_)
          try simp only [Act.put, List.setIfInBounds_toArray, List.set_cons_zero, List.set_cons_succ]
          clear hK K hHeld
          obtain ⟨m5, a5, n5, c5, rfl, _⟩ := RR_c17.out.form
          refine wpAnyH_ready (rs := [8]) (by kernel_rfl) (by simp) ?_
          refine AllReadyH.cons (by exact rfl) (fun K hK => ?_) AllReadyH.nil
          refine stAn (by rfl) (by rfl) 65 _ _ (by rfl) w.heap.size (by rfl) [.bool false, .slice none 0 0] [.bool m5, .slice a5 n5 c5] (by rfl) 65 RV_c17.out infoW rfl (il_one _ _ _ _) ?_
          intro wf vf uf
          have XXf := (show Hid _ from XX_c17.out.upd uf (by have := HAB.out; omega))
          refine hK.out _ _ (cells2 XXf.out) (fun hHeld => ?_)
          clear hK K hHeld
          refine wpAnyH_done (by kernel_rfl) ?_ _
          refine NoPanic.normal ?_
          have If := (show Hid _ from RR_c17.out.upd uf RV_c17.out (by decide))
          have Bf := (show Hid _ from uf.bel BB_c17.out (Nat.le_refl _))
          have hld := run_loadVar_row (P := Try.prog) wf w.heap.size 65 65 _ (0, 0) _ vf.blk Try.underlying65 rfl infoW
          go_wp2_with fail
          refine bodyPost_ret (v := .agg #[.bool m5, .slice a5 n5 c5]) (by simp [results, Try.results27, asAddr, hld]) rfl ⟨⟨_, rfl, ?_⟩, Bf.out⟩
          have hIf := If.out
          rw [doc_round Y nn d mode (by have := HP.out; omega) (by have := HP.out; omega), HYY.out] at hIf
          exact hIf
      · go_simp
        have VS_c19 := (show Hid _ from VS_x.out.alloc (.cells #[.bool false, .slice none 0 0] 65))
        have VR_c19 := (show Hid _ from VR_x.out.alloc (.cells #[.bool false, .slice none 0 0] 65))
        have SI_c19 := (show Hid _ from SI_x.out.alloc (.cells #[.bool false, .slice none 0 0] 65))
        have BB_c19 := (show Hid _ from BB_x.out.alloc BB_x.out.size (.cells #[.bool false, .slice none 0 0] 65))
        have XV_c19 := (show Hid _ from va_new wx [.bool false, .slice none 0 0] 65)
        have HAB : Hid (w.heap.size + 1 < wx.heap.size) := VS_x.out.lt
        have SS_c19 := (show Hid _ from cells2 VS_c19.out)
        refine hK.out _ _ SS_c19.out (fun hHeld => ?_)
        try simp only [Act.put, List.setIfInBounds_toArray, List.set_cons_zero, List.set_cons_succ]
        clear hK K hHeld
        change wpAnyH _ _ _ _ _ _ _ _ (wx.alloc (.cells ([.bool false, .slice none 0 0] : List Value).toArray 65))
        generalize wx.alloc (.cells ([.bool false, .slice none 0 0] : List Value).toArray 65) = wc19 at *
        generalize wx.heap.size = ab at *
        refine wpAnyH_ready (rs := [2]) (by kernel_rfl) (by simp) ?_
        refine AllReadyH.cons (by exact rfl) (fun K hK => ?_) AllReadyH.nil
        go_simp
        refine (made_in nn _ (by have := HP.out; omega) (by have := HP.out; omega)).mono ?_
        rintro e wc33 ⟨⟨r1, rfl, ic33⟩, bc33⟩
        have VS_c33 := (show Hid _ from VS_c19.out.step bc33)
        have VR_c33 := (show Hid _ from VR_c19.out.step bc33)
        have SI_c33 := (show Hid _ from SI_c19.out.step bc33)
        have XV_c33 := (show Hid _ from XV_c19.out.step bc33)
        have BB_c33 := (show Hid _ from BB_c19.out.trans (bc33.mono BB_c19.out.size))
        have J1_c33 := (show Hid _ from ic33)
        have SS_c33 := (show Hid _ from cells2 VS_c33.out)
        clear bc33 ic33
        go_wp2_with fail
        refine hK.out _ _ SS_c33.out (fun hHeld => ?_)
        try simp only [Act.put, List.setIfInBounds_toArray, List.set_cons_zero, List.set_cons_succ]
        clear hK K hHeld
        refine wpAnyH_ready (rs := [3]) (by kernel_rfl) (by simp) ?_
        refine AllReadyH.cons (by exact rfl) (fun K hK => ?_) AllReadyH.nil
        go_simp
        refine (prod_in _ r1 Y nn _ SI_c33.out J1_c33.out (mi_small (by have := HP.out; omega) (by have := HP.out; omega)) (mi_small (by have := HP.out; omega) (by have := HP.out; omega))).mono ?_
        rintro e wc34 ⟨⟨r2, rfl, ic34⟩, bc34⟩
        have VS_c34 := (show Hid _ from VS_c33.out.step bc34)
        have VR_c34 := (show Hid _ from VR_c33.out.step bc34)
        have SI_c34 := (show Hid _ from SI_c33.out.step bc34)
        have XV_c34 := (show Hid _ from XV_c33.out.step bc34)
        have J1_c34 := (show Hid _ from J1_c33.out.step bc34)
        have BB_c34 := (show Hid _ from BB_c33.out.trans (bc34.mono BB_c33.out.size))
        have J2_c34 := (show Hid _ from ic34)
        have SS_c34 := (show Hid _ from cells2 VS_c34.out)
        clear bc34 ic34
        go_wp2_with fail
        refine hK.out _ _ SS_c34.out (fun hHeld => ?_)
        try simp only [Act.put, List.setIfInBounds_toArray, List.set_cons_zero, List.set_cons_succ]
        clear hK K hHeld
        refine wpAnyH_ready (rs := [4]) (by kernel_rfl) (by simp) ?_
        refine AllReadyH.cons (by exact rfl) (fun K hK => ?_) AllReadyH.nil
        go_simp
        refine (made_in 1000000 _ (by omega) (by omega)).mono ?_
        rintro e wc35 ⟨⟨r3, rfl, ic35⟩, bc35⟩
        have VS_c35 := (show Hid _ from VS_c34.out.step bc35)
        have VR_c35 := (show Hid _ from VR_c34.out.step bc35)
        have SI_c35 := (show Hid _ from SI_c34.out.step bc35)
        have XV_c35 := (show Hid _ from XV_c34.out.step bc35)
        have J1_c35 := (show Hid _ from J1_c34.out.step bc35)
        have J2_c35 := (show Hid _ from J2_c34.out.step bc35)
        have BB_c35 := (show Hid _ from BB_c34.out.trans (bc35.mono BB_c34.out.size))
        have J3_c35 := (show Hid _ from ic35)
        have SS_c35 := (show Hid _ from cells2 VS_c35.out)
        clear bc35 ic35
        go_wp2_with fail
        refine hK.out _ _ SS_c35.out (fun hHeld => ?_)
        try simp only [Act.put, List.setIfInBounds_toArray, List.set_cons_zero, List.set_cons_succ]
        clear hK K hHeld
        refine wpAnyH_ready (rs := [5]) (by kernel_rfl) (by simp) ?_
        refine AllReadyH.cons (by exact rfl) (fun K hK => ?_) AllReadyH.nil
        go_simp
        refine (prod_in r2 r3 (Y * nn) 1000000 _ J2_c35.out J3_c35.out (mi_small (by have := HP.out; omega) (by have := HP.out; omega)) (mi_small (by omega) (by omega))).mono ?_
        rintro e wc36 ⟨⟨r4, rfl, ic36⟩, bc36⟩
        have VS_c36 := (show Hid _ from VS_c35.out.step bc36)
        have VR_c36 := (show Hid _ from VR_c35.out.step bc36)
        have SI_c36 := (show Hid _ from SI_c35.out.step bc36)
        have XV_c36 := (show Hid _ from XV_c35.out.step bc36)
        have J1_c36 := (show Hid _ from J1_c35.out.step bc36)
        have J2_c36 := (show Hid _ from J2_c35.out.step bc36)
        have J3_c36 := (show Hid _ from J3_c35.out.step bc36)
        have BB_c36 := (show Hid _ from BB_c35.out.trans (bc36.mono BB_c35.out.size))
        have J4_c36 := (show Hid _ from ic36)
        have SS_c36 := (show Hid _ from cells2 VS_c36.out)
        clear bc36 ic36
        go_wp2_with fail
        refine hK.out _ _ SS_c36.out (fun hHeld => ?_)
        try simp only [Act.put, List.setIfInBounds_toArray, List.set_cons_zero, List.set_cons_succ]
        clear hK K hHeld
        obtain ⟨m4, a4, n4, c4, rfl, _⟩ := J4_c36.out.form
        refine wpAnyH_ready (rs := [7]) (by kernel_rfl) (by simp) ?_
        refine AllReadyH.cons (by exact rfl) (fun K hK => ?_) AllReadyH.nil
        refine stAn (by rfl) (by rfl) 65 _ _ (by rfl) ab (by rfl) [.bool false, .slice none 0 0] [.bool m4, .slice a4 n4 c4] (by rfl) 65 XV_c36.out infoW rfl (il_one _ _ _ _) ?_
        intro w9 v9 u9
        have VS9 := (show Hid _ from VS_c36.out.upd u9 (Nat.ne_of_lt HAB.out))
        refine hK.out _ _ (cells2 VS9.out) (fun hHeld => ?_)
        clear hK K hHeld
        refine wpAnyH_done (by kernel_rfl) ?_ _
        refine NoPanic.normal ?_
        have X9 := (show Hid _ from v9)
        have I9 := (show Hid _ from J4_c36.out.upd u9 XV_c36.out (by decide))
        have R9 := (show Hid _ from VR_c36.out.upd u9 (by have := HAB.out; omega))
        have B9 := (show Hid _ from u9.bel BB_c36.out (by have := HAB.out; omega))
        clear v9 u9 VS9
        go_upto_region 9 with fail
        refine wp_region_noPanic ?_
        refine wp_region_held_drew (S := fun w' => w'.cell? ⟨ab, 0, none⟩ = some (.bool m4) ∧ w'.cell? ⟨ab, 1, none⟩ = some (.slice a4 n4 c4) ∧ ab < w'.heap.size) (by kernel_rfl) (cells2 X9.out.drew) (fun hHeld => ?_)
        refine takeD 0 54 (.agg #[.bool m4, .slice a4 n4 c4]) (by exact rfl) rfl (by kernel_rfl) (by kernel_rfl) (by kernel_rfl) (fun _ _ _ h => h) (Or.inl ⟨by rfl, ?_⟩) (by assumption) ?_
        · intro wq hS
          obtain ⟨h1, h2, h3⟩ := hS
          go_simp
        try simp only [Act.put, List.setIfInBounds_toArray, List.set_cons_zero, List.set_cons_succ]
        refine takeD 1 55 (.int .i64 d) (by exact rfl) rfl (by kernel_rfl) (by kernel_rfl) (by kernel_rfl) (fun _ _ _ h => h) (Or.inl ⟨by rfl, ?_⟩) (by assumption) ?_
        · intro wq hS
          go_simp
        try simp only [Act.put, List.setIfInBounds_toArray, List.set_cons_zero, List.set_cons_succ]
        refine takeD 2 56 (.int .u64 d) (by exact rfl) rfl (by kernel_rfl) (by kernel_rfl) (by kernel_rfl) (fun _ _ _ h => h) (Or.inl ⟨by rfl, ?_⟩) (by assumption) ?_
        · intro wq hS
          go_simp
        try simp only [Act.put, List.setIfInBounds_toArray, List.set_cons_zero, List.set_cons_succ]
        refine takeD 6 60 (.int .i64 (mode : Int)) (by exact rfl) rfl (by kernel_rfl) (by kernel_rfl) (by kernel_rfl) (fun _ _ _ h => h) (Or.inl ⟨by rfl, ?_⟩) (by assumption) ?_
        · intro wq hS
          go_simp
        try simp only [Act.put, List.setIfInBounds_toArray, List.set_cons_zero, List.set_cons_succ]
        clear hHeld
        have XX_y := (show Hid _ from X9.out.drew)
        have UP_y := (show Hid _ from I9.out.drew)
        have RV_y := (show Hid _ from R9.out.drew)
        have BB_y := (show Hid _ from B9.out.drew)
        have SS_y := (show Hid _ from cells2 XX_y.out)
        clear X9 I9 R9 B9
        generalize w9.drew = wy at *
        refine wpAnyH_ready (rs := [3]) (by kernel_rfl) (by simp) ?_
        refine AllReadyH.cons (by exact rfl) (fun K hK => ?_) AllReadyH.nil
        go_simp
        refine (word_ok d _ (by have := HP.out; omega) (by have := HP.out; omega)).mono ?_
        rintro e wc14 ⟨⟨u1, rfl, ic14⟩, bc14⟩
        have XX_c14 := (show Hid _ from XX_y.out.step bc14)
        have UP_c14 := (show Hid _ from UP_y.out.step bc14)
        have RV_c14 := (show Hid _ from RV_y.out.step bc14)
        have BB_c14 := (show Hid _ from BB_y.out.trans (bc14.mono BB_y.out.size))
        have N1_c14 := (show Hid _ from ic14)
        have SS_c14 := (show Hid _ from cells2 XX_c14.out)
        clear bc14 ic14
        go_wp2_with fail
        refine hK.out _ _ SS_c14.out (fun hHeld => ?_)
        try simp only [Act.put, List.setIfInBounds_toArray, List.set_cons_zero, List.set_cons_succ]
        clear hK K hHeld
        refine wpAnyH_ready (rs := [4]) (by kernel_rfl) (by simp) ?_
        refine AllReadyH.cons (by exact rfl) (fun K hK => ?_) AllReadyH.nil
        go_simp
        refine (ten_ok 9 _ (by omega)).mono ?_
        rintro e wc15 ⟨⟨u2, rfl, ic15⟩, bc15⟩
        have XX_c15 := (show Hid _ from XX_c14.out.step bc15)
        have UP_c15 := (show Hid _ from UP_c14.out.step bc15)
        have RV_c15 := (show Hid _ from RV_c14.out.step bc15)
        have N1_c15 := (show Hid _ from N1_c14.out.step bc15)
        have BB_c15 := (show Hid _ from BB_c14.out.trans (bc15.mono BB_c14.out.size))
        have N2_c15 := (show Hid _ from ic15)
        have SS_c15 := (show Hid _ from cells2 XX_c15.out)
        clear bc15 ic15
        go_wp2_with fail
        refine hK.out _ _ SS_c15.out (fun hHeld => ?_)
        try simp only [Act.put, List.setIfInBounds_toArray, List.set_cons_zero, List.set_cons_succ]
        clear hK K hHeld
        refine wpAnyH_ready (rs := [5]) (by kernel_rfl) (by simp) ?_
        refine AllReadyH.cons (by exact rfl) (fun K hK => ?_) AllReadyH.nil
        go_simp
        refine (times_ok u1 u2 _ _ _ N1_c15.out N2_c15.out (md_of (k := 18) (by have := HP.out; omega) (by decide)) (ten_md 9 (by omega))).mono ?_
        rintro e wc16 ⟨⟨u3, rfl, ic16⟩, bc16⟩
        have XX_c16 := (show Hid _ from XX_c15.out.step bc16)
        have UP_c16 := (show Hid _ from UP_c15.out.step bc16)
        have RV_c16 := (show Hid _ from RV_c15.out.step bc16)
        have N1_c16 := (show Hid _ from N1_c15.out.step bc16)
        have N2_c16 := (show Hid _ from N2_c15.out.step bc16)
        have BB_c16 := (show Hid _ from BB_c15.out.trans (bc16.mono BB_c15.out.size))
        have N3_c16 := (show Hid _ from ic16)
        have SS_c16 := (show Hid _ from cells2 XX_c16.out)
        clear bc16 ic16
        go_wp2_with fail
        refine hK.out _ _ SS_c16.out (fun hHeld => ?_)
        try simp only [Act.put, List.setIfInBounds_toArray, List.set_cons_zero, List.set_cons_succ]
        clear hK K hHeld
        refine wpAnyH_ready (rs := [7]) (by kernel_rfl) (by simp) ?_
        refine AllReadyH.cons (by exact rfl) (fun K hK => ?_) AllReadyH.nil
        go_simp
        refine (rounded_in _ u3 (Y * nn * 1000000) _ mode _ UP_c16.out N3_c16.out (mi_small (by have := HP.out; omega) (by have := HP.out; omega)) (md_of (k := 60) (by have := HP.out; omega) (by decide)) (by have := HP.out; omega) HM.out).mono ?_
        rintro e wc17 ⟨⟨r9, rfl, ic17⟩, bc17⟩
        have XX_c17 := (show Hid _ from XX_c16.out.step bc17)
        have UP_c17 := (show Hid _ from UP_c16.out.step bc17)
        have RV_c17 := (show Hid _ from RV_c16.out.step bc17)
        have N1_c17 := (show Hid _ from N1_c16.out.step bc17)
        have N2_c17 := (show Hid _ from N2_c16.out.step bc17)
        have N3_c17 := (show Hid _ from N3_c16.out.step bc17)
        have BB_c17 := (show Hid _ from BB_c16.out.trans (bc17.mono BB_c16.out.size))
        have RR_c17 := (show Hid _ from ic17)
        have SS_c17 := (show Hid _ from cells2 XX_c17.out)
        clear bc17 ic17
        go_wp2_with fail
        refine hK.out _ _ SS_c17.out (fun hHeld => ?_)
        try simp only [Act.put, List.setIfInBounds_toArray, List.set_cons_zero, List.set_cons_succ]
        clear hK K hHeld
        obtain ⟨m5, a5, n5, c5, rfl, _⟩ := RR_c17.out.form
        refine wpAnyH_ready (rs := [8]) (by kernel_rfl) (by simp) ?_
        refine AllReadyH.cons (by exact rfl) (fun K hK => ?_) AllReadyH.nil
        refine stAn (by rfl) (by rfl) 65 _ _ (by rfl) w.heap.size (by rfl) [.bool false, .slice none 0 0] [.bool m5, .slice a5 n5 c5] (by rfl) 65 RV_c17.out infoW rfl (il_one _ _ _ _) ?_
        intro wf vf uf
        have XXf := (show Hid _ from XX_c17.out.upd uf (by have := HAB.out; omega))
        refine hK.out _ _ (cells2 XXf.out) (fun hHeld => ?_)
        clear hK K hHeld
        refine wpAnyH_done (by kernel_rfl) ?_ _
        refine NoPanic.normal ?_
        have If := (show Hid _ from RR_c17.out.upd uf RV_c17.out (by decide))
        have Bf := (show Hid _ from uf.bel BB_c17.out (Nat.le_refl _))
        have hld := run_loadVar_row (P := Try.prog) wf w.heap.size 65 65 _ (0, 0) _ vf.blk Try.underlying65 rfl infoW
        go_wp2_with fail
        refine bodyPost_ret (v := .agg #[.bool m5, .slice a5 n5 c5]) (by simp [results, Try.results27, asAddr, hld]) rfl ⟨⟨_, rfl, ?_⟩, Bf.out⟩
        have hIf := If.out
        rw [doc_round Y nn d mode (by have := HP.out; omega) (by have := HP.out; omega), HYY.out] at hIf
        exact hIf
    have hk' : k < n := by omega
    have hlt : decide ((k : Int) < n) = true := decide_eq_true (by omega)
    obtain ⟨q, off, rfl, z1, z2⟩ := (H.out.step hb.out).cells k hk'
    have hq : q < wr.heap.size := by obtain ⟨_, _, e, hq, _⟩ := (H.out.step hb.out).at k hk'; cases e; exact hq
    have HNE : Hid (q < w.heap.size + 1) := by
      obtain ⟨_, _, e, hq, _⟩ := H.out.at k hk'
      cases e
      exact (by omega : q < w.heap.size + 1)
    have hf := tf_bd HT.out k (by have := HN.out; omega)
    have hpr := prt_bd HBB.out HT.out k (by have := HN.out; omega)
    have hys := ysum_bd HBB.out HT.out k (by have := HN.out; omega)
    have htm := term_bd HBB.out HT.out k (by have := HN.out; omega)
    obtain ⟨g', eg, hgs, hpc⟩ := po.out.at k (by rw [prts_len]; omega)
    cases eg
    rw [prts_get _ _ _ _ hk'] at hpc
    obtain ⟨y, hy⟩ : ∃ y, y = tr ts k := ⟨_, rfl⟩
    obtain ⟨P, hP⟩ : ∃ P, P = prt b ts k := ⟨_, rfl⟩
    obtain ⟨Y, hY⟩ : ∃ Y, Y = ysum b ts k := ⟨_, rfl⟩
    rw [← hy] at z2 hf htm
    rw [← hP] at hpc hpr htm
    rw [← hY] at hys si
    have HE : Hid (Y + P * y = ysum b ts (k + 1)) := by rw [hP, hY, hy]; rfl
    have bb := HBB.out.2
    have HP := (show Hid _ from And.intro hpr (And.intro hys (And.intro htm hf)))
    clear hy hP hY hpr hys htm hf
    go_upto_region 5 with fail
    refine wp_region_noPanic ?_
    refine wp_region_held_drew (S := fun w' => w'.cell? ⟨q, off + k * 2 + 1, none⟩ = some (.int .i64 y) ∧ q < w'.heap.size) (by kernel_rfl) ⟨z2, hq⟩ (fun hHeld => ?_)
    refine takeD 1 30 (.int .i64 P) (by exact rfl) rfl (by kernel_rfl) (by kernel_rfl) (by kernel_rfl) (fun _ _ _ h => h) (Or.inl ⟨by rfl, ?_⟩) (by assumption) ?_
    · intro wq hS
      go_simp
    try simp only [Act.put, List.setIfInBounds_toArray, List.set_cons_zero, List.set_cons_succ]
    refine takeD 3 32 (.slice (some ⟨q, off, none⟩) n tc) (by exact rfl) rfl (by kernel_rfl) (by kernel_rfl) (by kernel_rfl) (fun _ _ _ h => h) (Or.inl ⟨by rfl, ?_⟩) (by assumption) ?_
    · intro wq hS
      go_simp
    try simp only [Act.put, List.setIfInBounds_toArray, List.set_cons_zero, List.set_cons_succ]
    refine takeD 4 33 (.int .i64 (k : Int)) (by exact rfl) rfl (by kernel_rfl) (by kernel_rfl) (by kernel_rfl) (fun _ _ _ h => h) (Or.inl ⟨by rfl, ?_⟩) (by assumption) ?_
    · intro wq hS
      go_simp
    try simp only [Act.put, List.setIfInBounds_toArray, List.set_cons_zero, List.set_cons_succ]
    refine takeD 5 34 (.pointer (some ⟨q, off + k * 2, none⟩)) (by exact rfl) rfl (by kernel_rfl) (by kernel_rfl) (by kernel_rfl) (fun _ _ _ h => h) (Or.inl ⟨by rfl, ?_⟩) (by assumption) ?_
    · intro wq hS
      go_simp
    try simp only [Act.put, List.setIfInBounds_toArray, List.set_cons_zero, List.set_cons_succ]
    refine takeD 6 35 (.pointer (some ⟨q, off + k * 2 + 1, none⟩)) (by exact rfl) rfl (by kernel_rfl) (by kernel_rfl) (by kernel_rfl) (fun _ _ _ h => h) (Or.inl ⟨by rfl, ?_⟩) (by assumption) ?_
    · intro wq hS
      go_simp
    try simp only [Act.put, List.setIfInBounds_toArray, List.set_cons_zero, List.set_cons_succ]
    refine takeD 7 36 (.int .i64 y) (by exact rfl) rfl (by kernel_rfl) (by kernel_rfl) (by kernel_rfl) (fun _ _ _ h => h) (Or.inl ⟨by rfl, ?_⟩) (by assumption) ?_
    · intro wq hS
      obtain ⟨h1, h2⟩ := hS
      go_simp
    try simp only [Act.put, List.setIfInBounds_toArray, List.set_cons_zero, List.set_cons_succ]
    clear hHeld
    have VS_z := (show Hid _ from v.out.drew)
    have VR_z := (show Hid _ from r.out.drew)
    have SI_z := (show Hid _ from si.out.drew)
    have PO_z := (show Hid _ from po.out.step ((Below.refl _ _).drew))
    have BB_z := (show Hid _ from hb.out.drew)
    have SS_z := (show Hid (wr.drew.cell? ⟨q, off + k * 2 + 1, none⟩ = some (.int .i64 y) ∧ q < wr.drew.heap.size) from ⟨z2, hq⟩)
    clear v r si po hb z1 z2 hq hpc
    generalize wr.drew = wz at *
    refine wpAnyH_ready (rs := [0, 2]) (by kernel_rfl) (by simp) ?_
    refine AllReadyH.cons (by exact rfl) (fun K hK => ?_) (AllReadyH.cons (by exact rfl) (fun K hK => ?_) AllReadyH.nil)
    · have q0 := VS_z.out.cell 0 (v := .bool m) rfl
      have q1 := VS_z.out.cell 1 (v := .slice sa sn sc) rfl
      have ql := VS_z.out.lt
      go_simp
      refine hK.out _ _ SS_z.out (fun hHeld => ?_)
      try simp only [Act.put, List.setIfInBounds_toArray, List.set_cons_zero, List.set_cons_succ]
      clear hK K hHeld q0 q1 ql
      refine wpAnyH_ready (rs := [2]) (by kernel_rfl) (by simp) ?_
      refine AllReadyH.cons (by exact rfl) (fun K hK => ?_) AllReadyH.nil
      go_simp
      refine (made_in P _ (by have := HP.out; omega) (by have := HP.out; omega)).mono ?_
      rintro e wc1 ⟨⟨r1, rfl, ic1⟩, bc1⟩
      have VS_c1 := (show Hid _ from VS_z.out.step bc1)
      have VR_c1 := (show Hid _ from VR_z.out.step bc1)
      have SI_c1 := (show Hid _ from SI_z.out.step bc1)
      have PO_c1 := (show Hid _ from PO_z.out.step bc1)
      have BB_c1 := (show Hid _ from BB_z.out.trans (bc1.mono BB_z.out.size))
      have J1_c1 := (show Hid _ from ic1)
      have SS_c1 := (show Hid (wc1.cell? ⟨q, off + k * 2 + 1, none⟩ = some (.int .i64 y) ∧ q < wc1.heap.size) from ⟨(bc1.cell (p := ⟨q, off + k * 2 + 1, none⟩) SS_z.out.2).trans SS_z.out.1, Nat.lt_of_lt_of_le SS_z.out.2 bc1.size⟩)
      clear bc1 ic1
      go_wp2_with fail
      refine hK.out _ _ SS_c1.out (fun hHeld => ?_)
      try simp only [Act.put, List.setIfInBounds_toArray, List.set_cons_zero, List.set_cons_succ]
      clear hK K hHeld
      refine wpAnyH_ready (rs := [8]) (by kernel_rfl) (by simp) ?_
      refine AllReadyH.cons (by exact rfl) (fun K hK => ?_) AllReadyH.nil
      go_simp
      refine (made_in y _ (by have := HP.out; omega) (by have := HP.out; omega)).mono ?_
      rintro e wc2 ⟨⟨r2, rfl, ic2⟩, bc2⟩
      have VS_c2 := (show Hid _ from VS_c1.out.step bc2)
      have VR_c2 := (show Hid _ from VR_c1.out.step bc2)
      have SI_c2 := (show Hid _ from SI_c1.out.step bc2)
      have PO_c2 := (show Hid _ from PO_c1.out.step bc2)
      have J1_c2 := (show Hid _ from J1_c1.out.step bc2)
      have BB_c2 := (show Hid _ from BB_c1.out.trans (bc2.mono BB_c1.out.size))
      have J2_c2 := (show Hid _ from ic2)
      have SS_c2 := (show Hid (wc2.cell? ⟨q, off + k * 2 + 1, none⟩ = some (.int .i64 y) ∧ q < wc2.heap.size) from ⟨(bc2.cell (p := ⟨q, off + k * 2 + 1, none⟩) SS_c1.out.2).trans SS_c1.out.1, Nat.lt_of_lt_of_le SS_c1.out.2 bc2.size⟩)
      clear bc2 ic2
      go_wp2_with fail
      refine hK.out _ _ SS_c2.out (fun hHeld => ?_)
      try simp only [Act.put, List.setIfInBounds_toArray, List.set_cons_zero, List.set_cons_succ]
      clear hK K hHeld
      refine wpAnyH_ready (rs := [9]) (by kernel_rfl) (by simp) ?_
      refine AllReadyH.cons (by exact rfl) (fun K hK => ?_) AllReadyH.nil
      go_simp
      refine (prod_in r1 r2 P y _ J1_c2.out J2_c2.out (mi_small (by have := HP.out; omega) (by have := HP.out; omega)) (mi_small (by have := HP.out; omega) (by have := HP.out; omega))).mono ?_
      rintro e wc3 ⟨⟨r3, rfl, ic3⟩, bc3⟩
      have VS_c3 := (show Hid _ from VS_c2.out.step bc3)
      have VR_c3 := (show Hid _ from VR_c2.out.step bc3)
      have SI_c3 := (show Hid _ from SI_c2.out.step bc3)
      have PO_c3 := (show Hid _ from PO_c2.out.step bc3)
      have J1_c3 := (show Hid _ from J1_c2.out.step bc3)
      have J2_c3 := (show Hid _ from J2_c2.out.step bc3)
      have BB_c3 := (show Hid _ from BB_c2.out.trans (bc3.mono BB_c2.out.size))
      have J3_c3 := (show Hid _ from ic3)
      have SS_c3 := (show Hid (wc3.cell? ⟨q, off + k * 2 + 1, none⟩ = some (.int .i64 y) ∧ q < wc3.heap.size) from ⟨(bc3.cell (p := ⟨q, off + k * 2 + 1, none⟩) SS_c2.out.2).trans SS_c2.out.1, Nat.lt_of_lt_of_le SS_c2.out.2 bc3.size⟩)
      clear bc3 ic3
      go_wp2_with fail
      refine hK.out _ _ SS_c3.out (fun hHeld => ?_)
      try simp only [Act.put, List.setIfInBounds_toArray, List.set_cons_zero, List.set_cons_succ]
      clear hK K hHeld
      refine wpAnyH_ready (rs := [10]) (by kernel_rfl) (by simp) ?_
      refine AllReadyH.cons (by exact rfl) (fun K hK => ?_) AllReadyH.nil
      go_simp
      refine (sum_in _ r3 Y (P * y) _ SI_c3.out J3_c3.out (mi_small (by have := HP.out; omega) (by have := HP.out; omega)) (mi_small (by have := HP.out; omega) (by have := HP.out; omega))).mono ?_
      rintro e wc4 ⟨⟨r4, rfl, ic4⟩, bc4⟩
      have VS_c4 := (show Hid _ from VS_c3.out.step bc4)
      have VR_c4 := (show Hid _ from VR_c3.out.step bc4)
      have SI_c4 := (show Hid _ from SI_c3.out.step bc4)
      have PO_c4 := (show Hid _ from PO_c3.out.step bc4)
      have J1_c4 := (show Hid _ from J1_c3.out.step bc4)
      have J2_c4 := (show Hid _ from J2_c3.out.step bc4)
      have J3_c4 := (show Hid _ from J3_c3.out.step bc4)
      have BB_c4 := (show Hid _ from BB_c3.out.trans (bc4.mono BB_c3.out.size))
      have J4_c4 := (show Hid _ from ic4)
      have SS_c4 := (show Hid (wc4.cell? ⟨q, off + k * 2 + 1, none⟩ = some (.int .i64 y) ∧ q < wc4.heap.size) from ⟨(bc4.cell (p := ⟨q, off + k * 2 + 1, none⟩) SS_c3.out.2).trans SS_c3.out.1, Nat.lt_of_lt_of_le SS_c3.out.2 bc4.size⟩)
      clear bc4 ic4
      go_wp2_with fail
      refine hK.out _ _ SS_c4.out (fun hHeld => ?_)
      try simp only [Act.put, List.setIfInBounds_toArray, List.set_cons_zero, List.set_cons_succ]
      clear hK K hHeld
      obtain ⟨m4, a4, n4, c4, rfl, _⟩ := J4_c4.out.form
      refine wpAnyH_ready (rs := [11]) (by kernel_rfl) (by simp) ?_
      refine AllReadyH.cons (by exact rfl) (fun K hK => ?_) AllReadyH.nil
      refine stAn (by rfl) (by rfl) 65 _ _ (by rfl) (w.heap.size + 1) (by rfl) [.bool m, .slice sa sn sc] [.bool m4, .slice a4 n4 c4] (by rfl) 65 VS_c4.out infoW rfl (il_one _ _ _ _) ?_
      intro w9 v9 u9
      refine hK.out _ _ ⟨(cell_upd u9 (Nat.ne_of_lt HNE.out)).trans SS_c4.out.1, by rw [u9.size]; exact SS_c4.out.2⟩ (fun hHeld => ?_)
      clear hK K hHeld
      refine wpAnyH_done (by kernel_rfl) ?_ _
      refine NoPanic.normal ?_
      have V9 := (show Hid _ from v9)
      have I9 := (show Hid _ from J4_c4.out.upd u9 VS_c4.out (by decide))
      have R9 := (show Hid _ from VR_c4.out.upd u9 (by omega))
      have O9 := (show Hid _ from PO_c4.out.upd u9 HPO.out)
      have B9 := (show Hid _ from u9.bel BB_c4.out (by omega))
      clear v9 u9
      go_wp2_with fail
      exact ⟨⟨k + 1, m4, a4, n4, c4, by omega, by simp, V9, by rw [← HE.out]; exact I9, R9, O9, B9⟩, by simp [intOf]; omega⟩
    · go_simp
      refine (made_in P _ (by have := HP.out; omega) (by have := HP.out; omega)).mono ?_
      rintro e wc5 ⟨⟨r1, rfl, ic5⟩, bc5⟩
      have VS_c5 := (show Hid _ from VS_z.out.step bc5)
      have VR_c5 := (show Hid _ from VR_z.out.step bc5)
      have SI_c5 := (show Hid _ from SI_z.out.step bc5)
      have PO_c5 := (show Hid _ from PO_z.out.step bc5)
      have BB_c5 := (show Hid _ from BB_z.out.trans (bc5.mono BB_z.out.size))
      have J1_c5 := (show Hid _ from ic5)
      have SS_c5 := (show Hid (wc5.cell? ⟨q, off + k * 2 + 1, none⟩ = some (.int .i64 y) ∧ q < wc5.heap.size) from ⟨(bc5.cell (p := ⟨q, off + k * 2 + 1, none⟩) SS_z.out.2).trans SS_z.out.1, Nat.lt_of_lt_of_le SS_z.out.2 bc5.size⟩)
      clear bc5 ic5
      go_wp2_with fail
      refine hK.out _ _ SS_c5.out (fun hHeld => ?_)
      try simp only [Act.put, List.setIfInBounds_toArray, List.set_cons_zero, List.set_cons_succ]
      clear hK K hHeld
      refine wpAnyH_ready (rs := [0, 8]) (by kernel_rfl) (by simp) ?_
      refine AllReadyH.cons (by exact rfl) (fun K hK => ?_) (AllReadyH.cons (by exact rfl) (fun K hK => ?_) AllReadyH.nil)
      · have q0 := VS_c5.out.cell 0 (v := .bool m) rfl
        have q1 := VS_c5.out.cell 1 (v := .slice sa sn sc) rfl
        have ql := VS_c5.out.lt
        go_simp
        refine hK.out _ _ SS_c5.out (fun hHeld => ?_)
        try simp only [Act.put, List.setIfInBounds_toArray, List.set_cons_zero, List.set_cons_succ]
        clear hK K hHeld q0 q1 ql
        refine wpAnyH_ready (rs := [8]) (by kernel_rfl) (by simp) ?_
        refine AllReadyH.cons (by exact rfl) (fun K hK => ?_) AllReadyH.nil
        go_simp
        refine (made_in y _ (by have := HP.out; omega) (by have := HP.out; omega)).mono ?_
        rintro e wc6 ⟨⟨r2, rfl, ic6⟩, bc6⟩
        have VS_c6 := (show Hid _ from VS_c5.out.step bc6)
        have VR_c6 := (show Hid _ from VR_c5.out.step bc6)
        have SI_c6 := (show Hid _ from SI_c5.out.step bc6)
        have PO_c6 := (show Hid _ from PO_c5.out.step bc6)
        have J1_c6 := (show Hid _ from J1_c5.out.step bc6)
        have BB_c6 := (show Hid _ from BB_c5.out.trans (bc6.mono BB_c5.out.size))
        have J2_c6 := (show Hid _ from ic6)
        have SS_c6 := (show Hid (wc6.cell? ⟨q, off + k * 2 + 1, none⟩ = some (.int .i64 y) ∧ q < wc6.heap.size) from ⟨(bc6.cell (p := ⟨q, off + k * 2 + 1, none⟩) SS_c5.out.2).trans SS_c5.out.1, Nat.lt_of_lt_of_le SS_c5.out.2 bc6.size⟩)
        clear bc6 ic6
        go_wp2_with fail
        refine hK.out _ _ SS_c6.out (fun hHeld => ?_)
        try simp only [Act.put, List.setIfInBounds_toArray, List.set_cons_zero, List.set_cons_succ]
        clear hK K hHeld
        refine wpAnyH_ready (rs := [9]) (by kernel_rfl) (by simp) ?_
        refine AllReadyH.cons (by exact rfl) (fun K hK => ?_) AllReadyH.nil
        go_simp
        refine (prod_in r1 r2 P y _ J1_c6.out J2_c6.out (mi_small (by have := HP.out; omega) (by have := HP.out; omega)) (mi_small (by have := HP.out; omega) (by have := HP.out; omega))).mono ?_
        rintro e wc7 ⟨⟨r3, rfl, ic7⟩, bc7⟩
        have VS_c7 := (show Hid _ from VS_c6.out.step bc7)
        have VR_c7 := (show Hid _ from VR_c6.out.step bc7)
        have SI_c7 := (show Hid _ from SI_c6.out.step bc7)
        have PO_c7 := (show Hid _ from PO_c6.out.step bc7)
        have J1_c7 := (show Hid _ from J1_c6.out.step bc7)
        have J2_c7 := (show Hid _ from J2_c6.out.step bc7)
        have BB_c7 := (show Hid _ from BB_c6.out.trans (bc7.mono BB_c6.out.size))
        have J3_c7 := (show Hid _ from ic7)
        have SS_c7 := (show Hid (wc7.cell? ⟨q, off + k * 2 + 1, none⟩ = some (.int .i64 y) ∧ q < wc7.heap.size) from ⟨(bc7.cell (p := ⟨q, off + k * 2 + 1, none⟩) SS_c6.out.2).trans SS_c6.out.1, Nat.lt_of_lt_of_le SS_c6.out.2 bc7.size⟩)
        clear bc7 ic7
        go_wp2_with fail
        refine hK.out _ _ SS_c7.out (fun hHeld => ?_)
        try simp only [Act.put, List.setIfInBounds_toArray, List.set_cons_zero, List.set_cons_succ]
        clear hK K hHeld
        refine wpAnyH_ready (rs := [10]) (by kernel_rfl) (by simp) ?_
        refine AllReadyH.cons (by exact rfl) (fun K hK => ?_) AllReadyH.nil
        go_simp
        refine (sum_in _ r3 Y (P * y) _ SI_c7.out J3_c7.out (mi_small (by have := HP.out; omega) (by have := HP.out; omega)) (mi_small (by have := HP.out; omega) (by have := HP.out; omega))).mono ?_
        rintro e wc8 ⟨⟨r4, rfl, ic8⟩, bc8⟩
        have VS_c8 := (show Hid _ from VS_c7.out.step bc8)
        have VR_c8 := (show Hid _ from VR_c7.out.step bc8)
        have SI_c8 := (show Hid _ from SI_c7.out.step bc8)
        have PO_c8 := (show Hid _ from PO_c7.out.step bc8)
        have J1_c8 := (show Hid _ from J1_c7.out.step bc8)
        have J2_c8 := (show Hid _ from J2_c7.out.step bc8)
        have J3_c8 := (show Hid _ from J3_c7.out.step bc8)
        have BB_c8 := (show Hid _ from BB_c7.out.trans (bc8.mono BB_c7.out.size))
        have J4_c8 := (show Hid _ from ic8)
        have SS_c8 := (show Hid (wc8.cell? ⟨q, off + k * 2 + 1, none⟩ = some (.int .i64 y) ∧ q < wc8.heap.size) from ⟨(bc8.cell (p := ⟨q, off + k * 2 + 1, none⟩) SS_c7.out.2).trans SS_c7.out.1, Nat.lt_of_lt_of_le SS_c7.out.2 bc8.size⟩)
        clear bc8 ic8
        go_wp2_with fail
        refine hK.out _ _ SS_c8.out (fun hHeld => ?_)
        try simp only [Act.put, List.setIfInBounds_toArray, List.set_cons_zero, List.set_cons_succ]
        clear hK K hHeld
        obtain ⟨m4, a4, n4, c4, rfl, _⟩ := J4_c8.out.form
        refine wpAnyH_ready (rs := [11]) (by kernel_rfl) (by simp) ?_
        refine AllReadyH.cons (by exact rfl) (fun K hK => ?_) AllReadyH.nil
        refine stAn (by rfl) (by rfl) 65 _ _ (by rfl) (w.heap.size + 1) (by rfl) [.bool m, .slice sa sn sc] [.bool m4, .slice a4 n4 c4] (by rfl) 65 VS_c8.out infoW rfl (il_one _ _ _ _) ?_
        intro w9 v9 u9
        refine hK.out _ _ ⟨(cell_upd u9 (Nat.ne_of_lt HNE.out)).trans SS_c8.out.1, by rw [u9.size]; exact SS_c8.out.2⟩ (fun hHeld => ?_)
        clear hK K hHeld
        refine wpAnyH_done (by kernel_rfl) ?_ _
        refine NoPanic.normal ?_
        have V9 := (show Hid _ from v9)
        have I9 := (show Hid _ from J4_c8.out.upd u9 VS_c8.out (by decide))
        have R9 := (show Hid _ from VR_c8.out.upd u9 (by omega))
        have O9 := (show Hid _ from PO_c8.out.upd u9 HPO.out)
        have B9 := (show Hid _ from u9.bel BB_c8.out (by omega))
        clear v9 u9
        go_wp2_with fail
        exact ⟨⟨k + 1, m4, a4, n4, c4, by omega, by simp, V9, by rw [← HE.out]; exact I9, R9, O9, B9⟩, by simp [intOf]; omega⟩
      · go_simp
        refine (made_in y _ (by have := HP.out; omega) (by have := HP.out; omega)).mono ?_
        rintro e wc9 ⟨⟨r2, rfl, ic9⟩, bc9⟩
        have VS_c9 := (show Hid _ from VS_c5.out.step bc9)
        have VR_c9 := (show Hid _ from VR_c5.out.step bc9)
        have SI_c9 := (show Hid _ from SI_c5.out.step bc9)
        have PO_c9 := (show Hid _ from PO_c5.out.step bc9)
        have J1_c9 := (show Hid _ from J1_c5.out.step bc9)
        have BB_c9 := (show Hid _ from BB_c5.out.trans (bc9.mono BB_c5.out.size))
        have J2_c9 := (show Hid _ from ic9)
        have SS_c9 := (show Hid (wc9.cell? ⟨q, off + k * 2 + 1, none⟩ = some (.int .i64 y) ∧ q < wc9.heap.size) from ⟨(bc9.cell (p := ⟨q, off + k * 2 + 1, none⟩) SS_c5.out.2).trans SS_c5.out.1, Nat.lt_of_lt_of_le SS_c5.out.2 bc9.size⟩)
        clear bc9 ic9
        go_wp2_with fail
        refine hK.out _ _ SS_c9.out (fun hHeld => ?_)
        try simp only [Act.put, List.setIfInBounds_toArray, List.set_cons_zero, List.set_cons_succ]
        clear hK K hHeld
        refine wpAnyH_ready (rs := [0, 9]) (by kernel_rfl) (by simp) ?_
        refine AllReadyH.cons (by exact rfl) (fun K hK => ?_) (AllReadyH.cons (by exact rfl) (fun K hK => ?_) AllReadyH.nil)
        · have q0 := VS_c9.out.cell 0 (v := .bool m) rfl
          have q1 := VS_c9.out.cell 1 (v := .slice sa sn sc) rfl
          have ql := VS_c9.out.lt
          go_simp
          refine hK.out _ _ SS_c9.out (fun hHeld => ?_)
          try simp only [Act.put, List.setIfInBounds_toArray, List.set_cons_zero, List.set_cons_succ]
          clear hK K hHeld q0 q1 ql
          refine wpAnyH_ready (rs := [9]) (by kernel_rfl) (by simp) ?_
          refine AllReadyH.cons (by exact rfl) (fun K hK => ?_) AllReadyH.nil
          go_simp
          refine (prod_in r1 r2 P y _ J1_c9.out J2_c9.out (mi_small (by have := HP.out; omega) (by have := HP.out; omega)) (mi_small (by have := HP.out; omega) (by have := HP.out; omega))).mono ?_
          rintro e wc10 ⟨⟨r3, rfl, ic10⟩, bc10⟩
          have VS_c10 := (show Hid _ from VS_c9.out.step bc10)
          have VR_c10 := (show Hid _ from VR_c9.out.step bc10)
          have SI_c10 := (show Hid _ from SI_c9.out.step bc10)
          have PO_c10 := (show Hid _ from PO_c9.out.step bc10)
          have J1_c10 := (show Hid _ from J1_c9.out.step bc10)
          have J2_c10 := (show Hid _ from J2_c9.out.step bc10)
          have BB_c10 := (show Hid _ from BB_c9.out.trans (bc10.mono BB_c9.out.size))
          have J3_c10 := (show Hid _ from ic10)
          have SS_c10 := (show Hid (wc10.cell? ⟨q, off + k * 2 + 1, none⟩ = some (.int .i64 y) ∧ q < wc10.heap.size) from ⟨(bc10.cell (p := ⟨q, off + k * 2 + 1, none⟩) SS_c9.out.2).trans SS_c9.out.1, Nat.lt_of_lt_of_le SS_c9.out.2 bc10.size⟩)
          clear bc10 ic10
          go_wp2_with fail
          refine hK.out _ _ SS_c10.out (fun hHeld => ?_)
          try simp only [Act.put, List.setIfInBounds_toArray, List.set_cons_zero, List.set_cons_succ]
          clear hK K hHeld
          refine wpAnyH_ready (rs := [10]) (by kernel_rfl) (by simp) ?_
          refine AllReadyH.cons (by exact rfl) (fun K hK => ?_) AllReadyH.nil
          go_simp
          refine (sum_in _ r3 Y (P * y) _ SI_c10.out J3_c10.out (mi_small (by have := HP.out; omega) (by have := HP.out; omega)) (mi_small (by have := HP.out; omega) (by have := HP.out; omega))).mono ?_
          rintro e wc11 ⟨⟨r4, rfl, ic11⟩, bc11⟩
          have VS_c11 := (show Hid _ from VS_c10.out.step bc11)
          have VR_c11 := (show Hid _ from VR_c10.out.step bc11)
          have SI_c11 := (show Hid _ from SI_c10.out.step bc11)
          have PO_c11 := (show Hid _ from PO_c10.out.step bc11)
          have J1_c11 := (show Hid _ from J1_c10.out.step bc11)
          have J2_c11 := (show Hid _ from J2_c10.out.step bc11)
          have J3_c11 := (show Hid _ from J3_c10.out.step bc11)
          have BB_c11 := (show Hid _ from BB_c10.out.trans (bc11.mono BB_c10.out.size))
          have J4_c11 := (show Hid _ from ic11)
          have SS_c11 := (show Hid (wc11.cell? ⟨q, off + k * 2 + 1, none⟩ = some (.int .i64 y) ∧ q < wc11.heap.size) from ⟨(bc11.cell (p := ⟨q, off + k * 2 + 1, none⟩) SS_c10.out.2).trans SS_c10.out.1, Nat.lt_of_lt_of_le SS_c10.out.2 bc11.size⟩)
          clear bc11 ic11
          go_wp2_with fail
          refine hK.out _ _ SS_c11.out (fun hHeld => ?_)
          try simp only [Act.put, List.setIfInBounds_toArray, List.set_cons_zero, List.set_cons_succ]
          clear hK K hHeld
          obtain ⟨m4, a4, n4, c4, rfl, _⟩ := J4_c11.out.form
          refine wpAnyH_ready (rs := [11]) (by kernel_rfl) (by simp) ?_
          refine AllReadyH.cons (by exact rfl) (fun K hK => ?_) AllReadyH.nil
          refine stAn (by rfl) (by rfl) 65 _ _ (by rfl) (w.heap.size + 1) (by rfl) [.bool m, .slice sa sn sc] [.bool m4, .slice a4 n4 c4] (by rfl) 65 VS_c11.out infoW rfl (il_one _ _ _ _) ?_
          intro w9 v9 u9
          refine hK.out _ _ ⟨(cell_upd u9 (Nat.ne_of_lt HNE.out)).trans SS_c11.out.1, by rw [u9.size]; exact SS_c11.out.2⟩ (fun hHeld => ?_)
          clear hK K hHeld
          refine wpAnyH_done (by kernel_rfl) ?_ _
          refine NoPanic.normal ?_
          have V9 := (show Hid _ from v9)
          have I9 := (show Hid _ from J4_c11.out.upd u9 VS_c11.out (by decide))
          have R9 := (show Hid _ from VR_c11.out.upd u9 (by omega))
          have O9 := (show Hid _ from PO_c11.out.upd u9 HPO.out)
          have B9 := (show Hid _ from u9.bel BB_c11.out (by omega))
          clear v9 u9
          go_wp2_with fail
          exact ⟨⟨k + 1, m4, a4, n4, c4, by omega, by simp, V9, by rw [← HE.out]; exact I9, R9, O9, B9⟩, by simp [intOf]; omega⟩
        · go_simp
          refine (prod_in r1 r2 P y _ J1_c9.out J2_c9.out (mi_small (by have := HP.out; omega) (by have := HP.out; omega)) (mi_small (by have := HP.out; omega) (by have := HP.out; omega))).mono ?_
          rintro e wc12 ⟨⟨r3, rfl, ic12⟩, bc12⟩
          have VS_c12 := (show Hid _ from VS_c9.out.step bc12)
          have VR_c12 := (show Hid _ from VR_c9.out.step bc12)
          have SI_c12 := (show Hid _ from SI_c9.out.step bc12)
          have PO_c12 := (show Hid _ from PO_c9.out.step bc12)
          have J1_c12 := (show Hid _ from J1_c9.out.step bc12)
          have J2_c12 := (show Hid _ from J2_c9.out.step bc12)
          have BB_c12 := (show Hid _ from BB_c9.out.trans (bc12.mono BB_c9.out.size))
          have J3_c12 := (show Hid _ from ic12)
          have SS_c12 := (show Hid (wc12.cell? ⟨q, off + k * 2 + 1, none⟩ = some (.int .i64 y) ∧ q < wc12.heap.size) from ⟨(bc12.cell (p := ⟨q, off + k * 2 + 1, none⟩) SS_c9.out.2).trans SS_c9.out.1, Nat.lt_of_lt_of_le SS_c9.out.2 bc12.size⟩)
          clear bc12 ic12
          go_wp2_with fail
          refine hK.out _ _ SS_c12.out (fun hHeld => ?_)
          try simp only [Act.put, List.setIfInBounds_toArray, List.set_cons_zero, List.set_cons_succ]
          clear hK K hHeld
          refine wpAnyH_ready (rs := [0]) (by kernel_rfl) (by simp) ?_
          refine AllReadyH.cons (by exact rfl) (fun K hK => ?_) AllReadyH.nil
          have q0 := VS_c12.out.cell 0 (v := .bool m) rfl
          have q1 := VS_c12.out.cell 1 (v := .slice sa sn sc) rfl
          have ql := VS_c12.out.lt
          go_simp
          refine hK.out _ _ SS_c12.out (fun hHeld => ?_)
          try simp only [Act.put, List.setIfInBounds_toArray, List.set_cons_zero, List.set_cons_succ]
          clear hK K hHeld q0 q1 ql
          refine wpAnyH_ready (rs := [10]) (by kernel_rfl) (by simp) ?_
          refine AllReadyH.cons (by exact rfl) (fun K hK => ?_) AllReadyH.nil
          go_simp
          refine (sum_in _ r3 Y (P * y) _ SI_c12.out J3_c12.out (mi_small (by have := HP.out; omega) (by have := HP.out; omega)) (mi_small (by have := HP.out; omega) (by have := HP.out; omega))).mono ?_
          rintro e wc13 ⟨⟨r4, rfl, ic13⟩, bc13⟩
          have VS_c13 := (show Hid _ from VS_c12.out.step bc13)
          have VR_c13 := (show Hid _ from VR_c12.out.step bc13)
          have SI_c13 := (show Hid _ from SI_c12.out.step bc13)
          have PO_c13 := (show Hid _ from PO_c12.out.step bc13)
          have J1_c13 := (show Hid _ from J1_c12.out.step bc13)
          have J2_c13 := (show Hid _ from J2_c12.out.step bc13)
          have J3_c13 := (show Hid _ from J3_c12.out.step bc13)
          have BB_c13 := (show Hid _ from BB_c12.out.trans (bc13.mono BB_c12.out.size))
          have J4_c13 := (show Hid _ from ic13)
          have SS_c13 := (show Hid (wc13.cell? ⟨q, off + k * 2 + 1, none⟩ = some (.int .i64 y) ∧ q < wc13.heap.size) from ⟨(bc13.cell (p := ⟨q, off + k * 2 + 1, none⟩) SS_c12.out.2).trans SS_c12.out.1, Nat.lt_of_lt_of_le SS_c12.out.2 bc13.size⟩)
          clear bc13 ic13
          go_wp2_with fail
          refine hK.out _ _ SS_c13.out (fun hHeld => ?_)
          try simp only [Act.put, List.setIfInBounds_toArray, List.set_cons_zero, List.set_cons_succ]
          clear hK K hHeld
          obtain ⟨m4, a4, n4, c4, rfl, _⟩ := J4_c13.out.form
          refine wpAnyH_ready (rs := [11]) (by kernel_rfl) (by simp) ?_
          refine AllReadyH.cons (by exact rfl) (fun K hK => ?_) AllReadyH.nil
          refine stAn (by rfl) (by rfl) 65 _ _ (by rfl) (w.heap.size + 1) (by rfl) [.bool m, .slice sa sn sc] [.bool m4, .slice a4 n4 c4] (by rfl) 65 VS_c13.out infoW rfl (il_one _ _ _ _) ?_
          intro w9 v9 u9
          refine hK.out _ _ ⟨(cell_upd u9 (Nat.ne_of_lt HNE.out)).trans SS_c13.out.1, by rw [u9.size]; exact SS_c13.out.2⟩ (fun hHeld => ?_)
          clear hK K hHeld
          refine wpAnyH_done (by kernel_rfl) ?_ _
          refine NoPanic.normal ?_
          have V9 := (show Hid _ from v9)
          have I9 := (show Hid _ from J4_c13.out.upd u9 VS_c13.out (by decide))
          have R9 := (show Hid _ from VR_c13.out.upd u9 (by omega))
          have O9 := (show Hid _ from PO_c13.out.upd u9 HPO.out)
          have B9 := (show Hid _ from u9.bel BB_c13.out (by omega))
          clear v9 u9
          go_wp2_with fail
          exact ⟨⟨k + 1, m4, a4, n4, c4, by omega, by simp, V9, by rw [← HE.out]; exact I9, R9, O9, B9⟩, by simp [intOf]; omega⟩
end Go.Proofs.Ytmaikgebdegkgaa
