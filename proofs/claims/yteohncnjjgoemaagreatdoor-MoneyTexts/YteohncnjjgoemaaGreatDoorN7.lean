/- money: the contracts of the document's DocOf and DocTo. -/
import Derived.Test.YteohncnjjgoemaaGreatDoorN6
import Derived.Test.YteohncnjjgoemaaGreatDoorBe
import Derived.Test.YteohncnjjgoemaaGreatDoorUu
import Derived.Test.YteohncnjjgoemaaGreatDoorVd
namespace Go.Proofs.YteohncnjjgoemaaGreatDoor
open Go.RowKit
set_option linter.unusedVariables false
attribute [local go_sem ↓] Go.wp_at_zero Go.wp_at_succ

theorem cell_upd {w w' : World} {p q j : Nat} (k : Upd p w w') (h : q ≠ p) : w'.cell? ⟨q, j, none⟩ = w.cell? ⟨q, j, none⟩ := World.cell?_of_block (w := w) (w' := w') (a := ⟨q, j, none⟩) (k.block q h)
theorem Nm.upd {w w' : World} {v : Value} {x p : Nat} {cs : List Value} {T : TypeId} (h : Nm w v x) (k : Upd p w w') (hp : VA w p cs T) (hT : T ≠ 39) : Nm w' v x := by
  obtain ⟨ds, ⟨s, a, c, e, hc, f⟩, n, ev⟩ := h
  refine ⟨ds, ⟨s, a, c, e, hc, fun h0 => ?_⟩, n, ev⟩
  obtain ⟨b, off, ea, ⟨hb, cur', fr', hk⟩, hx⟩ := f h0
  have hne : b ≠ p := by
    intro e
    subst e
    rw [hp.blk] at hk
    simp at hk
    exact hT hk.2.1
  exact ⟨b, off, ea, ⟨by rw [k.size]; exact hb, cur', fr', by rw [k.block b hne]; exact hk⟩, fun j hj => (cell_upd k hne).trans (hx j hj)⟩
theorem In.upd {w w' : World} {v : Value} {z : Int} {p : Nat} {cs : List Value} {T : TypeId} (h : In w v z) (k : Upd p w w') (hp : VA w p cs T) (hT : T ≠ 39) : In w' v z := by
  obtain ⟨m, ⟨s, e, hn⟩, a, b⟩ := h
  exact ⟨m, ⟨s, e, hn.upd k hp hT⟩, a, b⟩
theorem infoW : (Tryz.prog.info? 84).map (·.size) = some 2 := by kernel_rfl
theorem il_one (m : Bool) (a : Option Addr) (n c : Nat) : ∀ v ∈ ([.bool m, .slice a n c] : List Value), v.oneCell' = true := by intro v hv; simp at hv; rcases hv with rfl | rfl <;> rfl
theorem mi_inr {c : Int} (h : InR c) : Mi c := by
  have h1 := h.lo
  have h2 := h.hi
  rw [M127_eq] at h1 h2
  exact md_of (k := 128) (by have : c.natAbs < 170141183460469231731687303715884105728 := by omega
                             exact Nat.lt_of_lt_of_le this (by decide)) (by decide)
theorem mi_ten {c : Int} (h : InR c) {k : Nat} (hk : k ≤ 3) : Mi (c * 10 ^ k) := by
  have h1 := h.lo
  have h2 := h.hi
  rw [M127_eq] at h1 h2
  have hn : c.natAbs < 170141183460469231731687303715884105728 := by omega
  have ht : (10 : Nat) ^ k ≤ 1000 := by
    have := Nat.pow_le_pow_right (show 0 < 10 by decide) hk
    exact this
  unfold Mi
  rw [Int.natAbs_mul, ten_abs]
  refine md_of (k := 140) ?_ (by decide)
  have := Nat.mul_le_mul (Nat.le_of_lt hn) ht
  exact Nat.lt_of_le_of_lt this (by decide)
theorem ten_in {w : World} {s : Value} {k : Nat} (h : Nm w s (10 ^ k)) : In w (.agg #[.bool false, s]) ((10 : Int) ^ k) := in_mk (by rw [ten_abs]; exact h) (fun _ => rfl) (fun h => by have := ten_pos k; omega)
set_option maxHeartbeats 20000000 in
set_option maxRecDepth 100000 in
theorem dof_yes (cc : Int) (s i mode : Nat) (R : Int) (w : World) (ic : InR cc) (hs : (s : Int) ≤ 18) (hi : i < 4) (hm : mode ≤ 6) (hR : R = rv cc s (cdg i) mode) (hr : -10000000000000 ≤ R ∧ R ≤ 10000000000000) :
    Calls Tryz.prog 23 #[.agg (dcs cc s).toArray, .int .i64 i, .int .i64 mode] w fun e w' => e = .returned (.tuple #[.agg (mcl i R).toArray, .int .i64 0]) ∧ Below w.heap.size w w' := by
  have HRV : Hid (sv (decide (cc * 10 ^ cdg i < 0)) (rnd (decide (cc * 10 ^ cdg i < 0)) (cc * 10 ^ cdg i).natAbs (10 ^ s) mode) = R) := by
    show sv (decide (cc * 10 ^ cdg i < 0)) (rnd (decide (cc * 10 ^ cdg i < 0)) (cc * 10 ^ cdg i).natAbs (10 ^ s) mode) = R
    rw [rv_eq, hR]
  have IC : Hid (InR cc) := ic
  have HS := (show Hid _ from hs)
  have HM := (show Hid _ from hm)
  have HR0 := (show Hid _ from hr)
  have HWI : Hid (wi R (-10000000000000) 10000000000000 = true) := wi_yes hr.1 hr.2
  clear hr
  have VD_0 := (show Hid _ from (va_new w (dcs cc s) 41).alloc (.cells (mcl 0 0).toArray 23))
  have VR_0 := (show Hid _ from va_new (w.alloc (.cells (dcs cc s).toArray 41)) (mcl 0 0) 23)
  rw [show (w.alloc (.cells (dcs cc s).toArray 41)).heap.size = w.heap.size + 1 by simp] at VR_0
  have BB_0 := (show Hid _ from ((Below.refl w.heap.size w).alloc (Nat.le_refl _) (.cells (dcs cc s).toArray 41)).alloc (by simp) (.cells (mcl 0 0).toArray 23))
  have hw := wi_yes (n := (i : Int)) (l := 0) (g := 3) (by omega) (by omega)
  have g1 : decide ((mode : Int) < 0) = false := decide_eq_false (by omega)
  have g2 : decide (6 < (mode : Int)) = false := decide_eq_false (by omega)
  clear ic hs hm hR
  go_enter Tryz.func23, Tryz.ntmps23
  go_wp2_with fail
  refine (rcur_ok i _).mono ?_
  rintro e wx ⟨rfl, hq⟩
  obtain rfl := hq.symm
  rw [hw]
  clear hw
  go_wp2_with (refine ldA rfl 41 _ rfl w.heap.size (by rfl) (dcs cc s) _ VD_0.out _ Tryz.underlying41 rfl infoD ?_)
  clear g1 g2
  refine (form_yes cc s _ IC.out HS.out).mono ?_
  rintro e w1 ⟨rfl, b1⟩
  have VD_1 := (show Hid _ from VD_0.out.step b1)
  have VR_1 := (show Hid _ from VR_0.out.step b1)
  have BB_1 := (show Hid _ from BB_0.out.trans (b1.mono BB_0.out.size))
  clear b1 VD_0 VR_0 BB_0
  go_upto_region 5 with fail
  refine wp_region_noPanic ?_
  refine wp_region_held_drew (S := fun w' => VA w' w.heap.size (dcs cc s) 41 ∧ True) (by kernel_rfl) ⟨VD_1.out.drew, True.intro⟩ (fun hHeld => ?_)
  refine takeD 0 27 (.agg #[.int .i64 (dhi cc), .int .u64 (dlo cc), .int .i64 s]) (by exact rfl) rfl (by kernel_rfl) (by kernel_rfl) (by kernel_rfl) (fun _ _ _ h => h) (Or.inl ⟨by rfl, ?_⟩) (by assumption) ?_
  · intro wq hS
    have h0 := hS.1.cell 0 (v := .int .i64 (dhi cc)) rfl
    have h1 := hS.1.cell 1 (v := .int .u64 (dlo cc)) rfl
    have h2 := hS.1.cell 2 (v := .int .i64 s) rfl
    go_simp
  try simp only [Act.put, List.setIfInBounds_toArray, List.set_cons_zero, List.set_cons_succ]
  refine takeD 2 29 (.int .i64 (i : Int)) (by exact rfl) rfl (by kernel_rfl) (by kernel_rfl) (by kernel_rfl) (fun _ _ _ h => h) (Or.inl ⟨by rfl, ?_⟩) (by assumption) ?_
  · intro wq hS
    go_simp
  try simp only [Act.put, List.setIfInBounds_toArray, List.set_cons_zero, List.set_cons_succ]
  refine takeD 7 34 (.pointer (some ⟨w.heap.size, 2, none⟩)) (by exact rfl) rfl (by kernel_rfl) (by kernel_rfl) (by kernel_rfl) (fun _ _ _ h => h) (Or.inl ⟨by rfl, ?_⟩) (by assumption) ?_
  · intro wq hS
    go_simp
  try simp only [Act.put, List.setIfInBounds_toArray, List.set_cons_zero, List.set_cons_succ]
  refine takeD 8 35 (.int .i64 (s : Int)) (by exact rfl) rfl (by kernel_rfl) (by kernel_rfl) (by kernel_rfl) (fun _ _ _ h => h) (Or.inl ⟨by rfl, ?_⟩) (by assumption) ?_
  · intro wq hS
    have h2 := hS.1.cell 2 (v := .int .i64 s) rfl
    go_simp
  try simp only [Act.put, List.setIfInBounds_toArray, List.set_cons_zero, List.set_cons_succ]
  refine takeD 10 37 (.int .i64 (mode : Int)) (by exact rfl) rfl (by kernel_rfl) (by kernel_rfl) (by kernel_rfl) (fun _ _ _ h => h) (Or.inl ⟨by rfl, ?_⟩) (by assumption) ?_
  · intro wq hS
    go_simp
  try simp only [Act.put, List.setIfInBounds_toArray, List.set_cons_zero, List.set_cons_succ]
  clear hHeld
  have VD_z := (show Hid _ from VD_1.out.drew)
  have VR_z := (show Hid _ from VR_1.out.drew)
  have BB_z := (show Hid _ from BB_1.out.drew)
  clear VD_1 VR_1 BB_1
  generalize w1.drew = wz at *
  refine wpAnyH_ready (rs := [1, 12]) (by kernel_rfl) (by simp) ?_
  refine AllReadyH.cons (by exact rfl) (fun K hK => ?_) (AllReadyH.cons (by exact rfl) (fun K hK => ?_) AllReadyH.nil)
  · go_simp
    refine (coef_ok cc s _ IC.out).mono ?_
    rintro e wc1 ⟨⟨v1, rfl, ic1⟩, bc1⟩
    have VD_c1 := (show Hid _ from VD_z.out.step bc1)
    have VR_c1 := (show Hid _ from VR_z.out.step bc1)
    have BB_c1 := (show Hid _ from BB_z.out.trans (bc1.mono BB_z.out.size))
    have J1_c1 := (show Hid _ from ic1)
    clear VD_z VR_z BB_z
    clear bc1 ic1
    go_wp2_with fail
    refine hK.out _ _ ⟨VD_c1.out, True.intro⟩ (fun hHeld => ?_)
    try simp only [Act.put, List.setIfInBounds_toArray, List.set_cons_zero, List.set_cons_succ]
    clear hK K
    clear hHeld
    refine wpAnyH_ready (rs := [3, 12]) (by kernel_rfl) (by simp) ?_
    refine AllReadyH.cons (by exact rfl) (fun K hK => ?_) (AllReadyH.cons (by exact rfl) (fun K hK => ?_) AllReadyH.nil)
    · go_simp
      refine (rdigits_ok i _ hi).mono ?_
      rintro e wx ⟨rfl, hq⟩
      obtain rfl := hq.symm
      go_wp2_with fail
      refine hK.out _ _ ⟨VD_c1.out, True.intro⟩ (fun hHeld => ?_)
      try simp only [Act.put, List.setIfInBounds_toArray, List.set_cons_zero, List.set_cons_succ]
      clear hK K hHeld
      refine wpAnyH_ready (rs := [4, 12]) (by kernel_rfl) (by simp) ?_
      refine AllReadyH.cons (by exact rfl) (fun K hK => ?_) (AllReadyH.cons (by exact rfl) (fun K hK => ?_) AllReadyH.nil)
      · go_simp
        refine (ten_ok (cdg i) _ (by have := cdg_le i; omega)).mono ?_
        rintro e wc5 ⟨⟨r4, rfl, ic5⟩, bc5⟩
        have VD_c5 := (show Hid _ from VD_c1.out.step bc5)
        have VR_c5 := (show Hid _ from VR_c1.out.step bc5)
        have J1_c5 := (show Hid _ from J1_c1.out.step bc5)
        have BB_c5 := (show Hid _ from BB_c1.out.trans (bc5.mono BB_c1.out.size))
        have N4_c5 := (show Hid _ from ic5)
        clear VD_c1 VR_c1 J1_c1 BB_c1
        clear bc5 ic5
        obtain ⟨a4, n4, k4, rfl⟩ := N4_c5.out.form
        go_wp2_with fail
        refine hK.out _ _ ⟨VD_c5.out, True.intro⟩ (fun hHeld => ?_)
        try simp only [Act.put, List.setIfInBounds_toArray, List.set_cons_zero, List.set_cons_succ]
        clear hK K
        refine takeD 5 32 (.agg #[.bool false, .slice a4 n4 k4]) (by exact rfl) rfl (by kernel_rfl) (by kernel_rfl) (by kernel_rfl) (fun _ _ _ h => h) (Or.inl ⟨by rfl, ?_⟩) (by assumption) ?_
        · intro wq hS
          go_simp
        try simp only [Act.put, List.setIfInBounds_toArray, List.set_cons_zero, List.set_cons_succ]
        clear hHeld
        refine wpAnyH_ready (rs := [6, 12]) (by kernel_rfl) (by simp) ?_
        refine AllReadyH.cons (by exact rfl) (fun K hK => ?_) (AllReadyH.cons (by exact rfl) (fun K hK => ?_) AllReadyH.nil)
        · go_simp
          refine (prod_in v1 _ cc (10 ^ cdg i) _ J1_c5.out (ten_in N4_c5.out) (mi_inr IC.out) (by have := mi_ten (c := 1) ⟨by decide, by decide⟩ (cdg_le i); rw [Int.one_mul] at this; exact this)).mono ?_
          rintro e wc7 ⟨⟨v6, rfl, ic7⟩, bc7⟩
          have VD_c7 := (show Hid _ from VD_c5.out.step bc7)
          have VR_c7 := (show Hid _ from VR_c5.out.step bc7)
          have J1_c7 := (show Hid _ from J1_c5.out.step bc7)
          have N4_c7 := (show Hid _ from N4_c5.out.step bc7)
          have BB_c7 := (show Hid _ from BB_c5.out.trans (bc7.mono BB_c5.out.size))
          have J6_c7 := (show Hid _ from ic7)
          clear VD_c5 VR_c5 J1_c5 N4_c5 BB_c5
          clear bc7 ic7
          go_wp2_with fail
          refine hK.out _ _ ⟨VD_c7.out, True.intro⟩ (fun hHeld => ?_)
          try simp only [Act.put, List.setIfInBounds_toArray, List.set_cons_zero, List.set_cons_succ]
          clear hK K
          clear hHeld
          refine wpAnyH_ready (rs := [9, 12]) (by kernel_rfl) (by simp) ?_
          refine AllReadyH.cons (by exact rfl) (fun K hK => ?_) (AllReadyH.cons (by exact rfl) (fun K hK => ?_) AllReadyH.nil)
          · go_simp
            refine (ten_ok s _ (by have := HS.out; omega)).mono ?_
            rintro e wc9 ⟨⟨r9, rfl, ic9⟩, bc9⟩
            have VD_c9 := (show Hid _ from VD_c7.out.step bc9)
            have VR_c9 := (show Hid _ from VR_c7.out.step bc9)
            have J1_c9 := (show Hid _ from J1_c7.out.step bc9)
            have N4_c9 := (show Hid _ from N4_c7.out.step bc9)
            have J6_c9 := (show Hid _ from J6_c7.out.step bc9)
            have BB_c9 := (show Hid _ from BB_c7.out.trans (bc9.mono BB_c7.out.size))
            have N9_c9 := (show Hid _ from ic9)
            clear VD_c7 VR_c7 J1_c7 N4_c7 J6_c7 BB_c7
            clear bc9 ic9
            obtain ⟨a9, n9, k9, rfl⟩ := N9_c9.out.form
            go_wp2_with fail
            refine hK.out _ _ ⟨VD_c9.out, True.intro⟩ (fun hHeld => ?_)
            try simp only [Act.put, List.setIfInBounds_toArray, List.set_cons_zero, List.set_cons_succ]
            clear hK K
            clear hHeld
            refine wpAnyH_ready (rs := [11, 12]) (by kernel_rfl) (by simp) ?_
            refine AllReadyH.cons (by exact rfl) (fun K hK => ?_) (AllReadyH.cons (by exact rfl) (fun K hK => ?_) AllReadyH.nil)
            · go_simp
              refine (rounded_in v6 _ (cc * 10 ^ cdg i) (10 ^ s) mode _ J6_c9.out N9_c9.out (mi_ten IC.out (cdg_le i)) (ten_md s (by have := HS.out; omega)) (Nat.pow_pos (by decide)) HM.out).mono ?_
              rintro e wc11 ⟨⟨vv, rfl, ic11⟩, bc11⟩
              have VD_c11 := (show Hid _ from VD_c9.out.step bc11)
              have VR_c11 := (show Hid _ from VR_c9.out.step bc11)
              have J1_c11 := (show Hid _ from J1_c9.out.step bc11)
              have N4_c11 := (show Hid _ from N4_c9.out.step bc11)
              have J6_c11 := (show Hid _ from J6_c9.out.step bc11)
              have N9_c11 := (show Hid _ from N9_c9.out.step bc11)
              have BB_c11 := (show Hid _ from BB_c9.out.trans (bc11.mono BB_c9.out.size))
              rw [HRV.out] at ic11
              have JJ_c11 := (show Hid _ from ic11)
              clear VD_c9 VR_c9 J1_c9 N4_c9 J6_c9 N9_c9 BB_c9
              clear bc11 ic11
              go_wp2_with fail
              refine hK.out _ _ ⟨VD_c11.out, True.intro⟩ (fun hHeld => ?_)
              try simp only [Act.put, List.setIfInBounds_toArray, List.set_cons_zero, List.set_cons_succ]
              clear hK K
              clear hHeld
              refine wpAnyH_ready (rs := [12]) (by kernel_rfl) (by simp) ?_
              refine AllReadyH.cons (by exact rfl) (fun K hK => ?_) AllReadyH.nil
              go_simp
              have VD_c13 := (show Hid _ from VD_c11.out.alloc (.cells ([.bool false, .slice none 0 0] : List Value).toArray 84))
              have VR_c13 := (show Hid _ from VR_c11.out.alloc (.cells ([.bool false, .slice none 0 0] : List Value).toArray 84))
              have J1_c13 := (show Hid _ from J1_c11.out.alloc (.cells ([.bool false, .slice none 0 0] : List Value).toArray 84))
              have N4_c13 := (show Hid _ from N4_c11.out.alloc (.cells ([.bool false, .slice none 0 0] : List Value).toArray 84))
              have J6_c13 := (show Hid _ from J6_c11.out.alloc (.cells ([.bool false, .slice none 0 0] : List Value).toArray 84))
              have N9_c13 := (show Hid _ from N9_c11.out.alloc (.cells ([.bool false, .slice none 0 0] : List Value).toArray 84))
              have JJ_c13 := (show Hid _ from JJ_c11.out.alloc (.cells ([.bool false, .slice none 0 0] : List Value).toArray 84))
              have BB_c13 := (show Hid _ from BB_c11.out.alloc BB_c11.out.size (.cells ([.bool false, .slice none 0 0] : List Value).toArray 84))
              have XV_c13 := (show Hid _ from va_new wc11 [.bool false, .slice none 0 0] 84)
              have HAB : Hid (w.heap.size + 1 < wc11.heap.size) := VR_c11.out.lt
              refine hK.out _ _ ⟨VD_c13.out, True.intro⟩ (fun hHeld => ?_)
              try simp only [Act.put, List.setIfInBounds_toArray, List.set_cons_zero, List.set_cons_succ]
              clear hK K hHeld
              clear VD_c11 VR_c11 J1_c11 N4_c11 J6_c11 N9_c11 JJ_c11 BB_c11
              change wpAnyH _ _ _ _ _ _ _ _ (wc11.alloc (.cells ([.bool false, .slice none 0 0] : List Value).toArray 84))
              generalize wc11.alloc (.cells ([.bool false, .slice none 0 0] : List Value).toArray 84) = wc13 at *
              generalize wc11.heap.size = ab at *
              obtain ⟨m5, a5, n5, k5, rfl, _⟩ := JJ_c13.out.form
              refine wpAnyH_ready (rs := [13]) (by kernel_rfl) (by simp) ?_
              refine AllReadyH.cons (by exact rfl) (fun K hK => ?_) AllReadyH.nil
              refine stAn (by rfl) (by rfl) 84 _ _ (by rfl) ab (by rfl) [.bool false, .slice none 0 0] [.bool m5, .slice a5 n5 k5] (by rfl) 84 XV_c13.out infoW rfl (il_one _ _ _ _) ?_
              intro w9 v9 u9
              have VD_9 := (show Hid _ from VD_c13.out.upd u9 (by have := HAB.out; omega))
              refine hK.out _ _ ⟨VD_9.out, True.intro⟩ (fun hHeld => ?_)
              clear hK K hHeld
              refine wpAnyH_done (by kernel_rfl) ?_ _
              refine NoPanic.normal ?_
              have XV_9 := (show Hid _ from v9)
              have JJ_9 := (show Hid _ from JJ_c13.out.upd u9 XV_c13.out (by decide))
              have VR_9 := (show Hid _ from VR_c13.out.upd u9 (by have := HAB.out; omega))
              have BB_9 := (show Hid _ from u9.bel BB_c13.out (by have := HAB.out; omega))
              clear v9 u9 VD_9
              clear VD_c13 VR_c13 J1_c13 N4_c13 J6_c13 N9_c13 JJ_c13 XV_c13 BB_c13
              go_wp2_with (refine ldA rfl 84 _ rfl ab (by rfl) [.bool m5, .slice a5 n5 k5] _ XV_9.out _ Tryz.underlying84 rfl infoW ?_)
              refine (small_yes _ R _ JJ_9.out (by have := HR0.out; omega) (by have := HR0.out; omega)).mono ?_
              rintro e wb ⟨rfl, bb⟩
              have VRX := (show Hid _ from VR_9.out.step bb)
              have BBX := (show Hid _ from BB_9.out.trans (bb.mono BB_9.out.size))
              clear bb VR_9 BB_9 JJ_9 XV_9
              go_wp2_with fail
              refine (ramount_ok R _).mono ?_
              rintro e wx ⟨rfl, hq⟩
              obtain rfl := hq.symm
              rw [HWI.out]
              go_wp2_with (refine stA rfl 23 _ _ rfl (w.heap.size + 1) (by rfl) (mcl 0 0) (mcl i R) (by rfl) 23 VRX.out infoM rfl (mcl_one _ _) ?_; intro wf vf uf)
              have hld := run_loadVar_row (P := Tryz.prog) wf (w.heap.size + 1) 23 23 _ (0, 0) _ vf.blk Tryz.underlying23 rfl infoM
              exact bodyPost_ret (v := .tuple #[.agg (mcl i R).toArray, .int .i64 0]) (by simp [results, Tryz.results23, asAddr, hld]) rfl ⟨rfl, uf.bel BBX.out (by omega)⟩
            · go_simp
              have VD_c12 := (show Hid _ from VD_c9.out.alloc (.cells ([.bool false, .slice none 0 0] : List Value).toArray 84))
              have VR_c12 := (show Hid _ from VR_c9.out.alloc (.cells ([.bool false, .slice none 0 0] : List Value).toArray 84))
              have J1_c12 := (show Hid _ from J1_c9.out.alloc (.cells ([.bool false, .slice none 0 0] : List Value).toArray 84))
              have N4_c12 := (show Hid _ from N4_c9.out.alloc (.cells ([.bool false, .slice none 0 0] : List Value).toArray 84))
              have J6_c12 := (show Hid _ from J6_c9.out.alloc (.cells ([.bool false, .slice none 0 0] : List Value).toArray 84))
              have N9_c12 := (show Hid _ from N9_c9.out.alloc (.cells ([.bool false, .slice none 0 0] : List Value).toArray 84))
              have BB_c12 := (show Hid _ from BB_c9.out.alloc BB_c9.out.size (.cells ([.bool false, .slice none 0 0] : List Value).toArray 84))
              have XV_c12 := (show Hid _ from va_new wc9 [.bool false, .slice none 0 0] 84)
              have HAB : Hid (w.heap.size + 1 < wc9.heap.size) := VR_c9.out.lt
              refine hK.out _ _ ⟨VD_c12.out, True.intro⟩ (fun hHeld => ?_)
              try simp only [Act.put, List.setIfInBounds_toArray, List.set_cons_zero, List.set_cons_succ]
              clear hK K hHeld
              clear VD_c9 VR_c9 J1_c9 N4_c9 J6_c9 N9_c9 BB_c9
              change wpAnyH _ _ _ _ _ _ _ _ (wc9.alloc (.cells ([.bool false, .slice none 0 0] : List Value).toArray 84))
              generalize wc9.alloc (.cells ([.bool false, .slice none 0 0] : List Value).toArray 84) = wc12 at *
              generalize wc9.heap.size = ab at *
              refine wpAnyH_ready (rs := [11]) (by kernel_rfl) (by simp) ?_
              refine AllReadyH.cons (by exact rfl) (fun K hK => ?_) AllReadyH.nil
              go_simp
              refine (rounded_in v6 _ (cc * 10 ^ cdg i) (10 ^ s) mode _ J6_c12.out N9_c12.out (mi_ten IC.out (cdg_le i)) (ten_md s (by have := HS.out; omega)) (Nat.pow_pos (by decide)) HM.out).mono ?_
              rintro e wc14 ⟨⟨vv, rfl, ic14⟩, bc14⟩
              have VD_c14 := (show Hid _ from VD_c12.out.step bc14)
              have VR_c14 := (show Hid _ from VR_c12.out.step bc14)
              have J1_c14 := (show Hid _ from J1_c12.out.step bc14)
              have N4_c14 := (show Hid _ from N4_c12.out.step bc14)
              have J6_c14 := (show Hid _ from J6_c12.out.step bc14)
              have N9_c14 := (show Hid _ from N9_c12.out.step bc14)
              have XV_c14 := (show Hid _ from XV_c12.out.step bc14)
              have BB_c14 := (show Hid _ from BB_c12.out.trans (bc14.mono BB_c12.out.size))
              rw [HRV.out] at ic14
              have JJ_c14 := (show Hid _ from ic14)
              clear VD_c12 VR_c12 J1_c12 N4_c12 J6_c12 N9_c12 XV_c12 BB_c12
              clear bc14 ic14
              go_wp2_with fail
              refine hK.out _ _ ⟨VD_c14.out, True.intro⟩ (fun hHeld => ?_)
              try simp only [Act.put, List.setIfInBounds_toArray, List.set_cons_zero, List.set_cons_succ]
              clear hK K
              clear hHeld
              obtain ⟨m5, a5, n5, k5, rfl, _⟩ := JJ_c14.out.form
              refine wpAnyH_ready (rs := [13]) (by kernel_rfl) (by simp) ?_
              refine AllReadyH.cons (by exact rfl) (fun K hK => ?_) AllReadyH.nil
              refine stAn (by rfl) (by rfl) 84 _ _ (by rfl) ab (by rfl) [.bool false, .slice none 0 0] [.bool m5, .slice a5 n5 k5] (by rfl) 84 XV_c14.out infoW rfl (il_one _ _ _ _) ?_
              intro w9 v9 u9
              have VD_9 := (show Hid _ from VD_c14.out.upd u9 (by have := HAB.out; omega))
              refine hK.out _ _ ⟨VD_9.out, True.intro⟩ (fun hHeld => ?_)
              clear hK K hHeld
              refine wpAnyH_done (by kernel_rfl) ?_ _
              refine NoPanic.normal ?_
              have XV_9 := (show Hid _ from v9)
              have JJ_9 := (show Hid _ from JJ_c14.out.upd u9 XV_c14.out (by decide))
              have VR_9 := (show Hid _ from VR_c14.out.upd u9 (by have := HAB.out; omega))
              have BB_9 := (show Hid _ from u9.bel BB_c14.out (by have := HAB.out; omega))
              clear v9 u9 VD_9
              clear VD_c14 VR_c14 J1_c14 N4_c14 J6_c14 N9_c14 XV_c14 JJ_c14 BB_c14
              go_wp2_with (refine ldA rfl 84 _ rfl ab (by rfl) [.bool m5, .slice a5 n5 k5] _ XV_9.out _ Tryz.underlying84 rfl infoW ?_)
              refine (small_yes _ R _ JJ_9.out (by have := HR0.out; omega) (by have := HR0.out; omega)).mono ?_
              rintro e wb ⟨rfl, bb⟩
              have VRX := (show Hid _ from VR_9.out.step bb)
              have BBX := (show Hid _ from BB_9.out.trans (bb.mono BB_9.out.size))
              clear bb VR_9 BB_9 JJ_9 XV_9
              go_wp2_with fail
              refine (ramount_ok R _).mono ?_
              rintro e wx ⟨rfl, hq⟩
              obtain rfl := hq.symm
              rw [HWI.out]
              go_wp2_with (refine stA rfl 23 _ _ rfl (w.heap.size + 1) (by rfl) (mcl 0 0) (mcl i R) (by rfl) 23 VRX.out infoM rfl (mcl_one _ _) ?_; intro wf vf uf)
              have hld := run_loadVar_row (P := Tryz.prog) wf (w.heap.size + 1) 23 23 _ (0, 0) _ vf.blk Tryz.underlying23 rfl infoM
              exact bodyPost_ret (v := .tuple #[.agg (mcl i R).toArray, .int .i64 0]) (by simp [results, Tryz.results23, asAddr, hld]) rfl ⟨rfl, uf.bel BBX.out (by omega)⟩
          · go_simp
            have VD_c10 := (show Hid _ from VD_c7.out.alloc (.cells ([.bool false, .slice none 0 0] : List Value).toArray 84))
            have VR_c10 := (show Hid _ from VR_c7.out.alloc (.cells ([.bool false, .slice none 0 0] : List Value).toArray 84))
            have J1_c10 := (show Hid _ from J1_c7.out.alloc (.cells ([.bool false, .slice none 0 0] : List Value).toArray 84))
            have N4_c10 := (show Hid _ from N4_c7.out.alloc (.cells ([.bool false, .slice none 0 0] : List Value).toArray 84))
            have J6_c10 := (show Hid _ from J6_c7.out.alloc (.cells ([.bool false, .slice none 0 0] : List Value).toArray 84))
            have BB_c10 := (show Hid _ from BB_c7.out.alloc BB_c7.out.size (.cells ([.bool false, .slice none 0 0] : List Value).toArray 84))
            have XV_c10 := (show Hid _ from va_new wc7 [.bool false, .slice none 0 0] 84)
            have HAB : Hid (w.heap.size + 1 < wc7.heap.size) := VR_c7.out.lt
            refine hK.out _ _ ⟨VD_c10.out, True.intro⟩ (fun hHeld => ?_)
            try simp only [Act.put, List.setIfInBounds_toArray, List.set_cons_zero, List.set_cons_succ]
            clear hK K hHeld
            clear VD_c7 VR_c7 J1_c7 N4_c7 J6_c7 BB_c7
            change wpAnyH _ _ _ _ _ _ _ _ (wc7.alloc (.cells ([.bool false, .slice none 0 0] : List Value).toArray 84))
            generalize wc7.alloc (.cells ([.bool false, .slice none 0 0] : List Value).toArray 84) = wc10 at *
            generalize wc7.heap.size = ab at *
            refine wpAnyH_ready (rs := [9]) (by kernel_rfl) (by simp) ?_
            refine AllReadyH.cons (by exact rfl) (fun K hK => ?_) AllReadyH.nil
            go_simp
            refine (ten_ok s _ (by have := HS.out; omega)).mono ?_
            rintro e wc15 ⟨⟨r9, rfl, ic15⟩, bc15⟩
            have VD_c15 := (show Hid _ from VD_c10.out.step bc15)
            have VR_c15 := (show Hid _ from VR_c10.out.step bc15)
            have J1_c15 := (show Hid _ from J1_c10.out.step bc15)
            have N4_c15 := (show Hid _ from N4_c10.out.step bc15)
            have J6_c15 := (show Hid _ from J6_c10.out.step bc15)
            have XV_c15 := (show Hid _ from XV_c10.out.step bc15)
            have BB_c15 := (show Hid _ from BB_c10.out.trans (bc15.mono BB_c10.out.size))
            have N9_c15 := (show Hid _ from ic15)
            clear VD_c10 VR_c10 J1_c10 N4_c10 J6_c10 XV_c10 BB_c10
            clear bc15 ic15
            obtain ⟨a9, n9, k9, rfl⟩ := N9_c15.out.form
            go_wp2_with fail
            refine hK.out _ _ ⟨VD_c15.out, True.intro⟩ (fun hHeld => ?_)
            try simp only [Act.put, List.setIfInBounds_toArray, List.set_cons_zero, List.set_cons_succ]
            clear hK K
            clear hHeld
            refine wpAnyH_ready (rs := [11]) (by kernel_rfl) (by simp) ?_
            refine AllReadyH.cons (by exact rfl) (fun K hK => ?_) AllReadyH.nil
            go_simp
            refine (rounded_in v6 _ (cc * 10 ^ cdg i) (10 ^ s) mode _ J6_c15.out N9_c15.out (mi_ten IC.out (cdg_le i)) (ten_md s (by have := HS.out; omega)) (Nat.pow_pos (by decide)) HM.out).mono ?_
            rintro e wc16 ⟨⟨vv, rfl, ic16⟩, bc16⟩
            have VD_c16 := (show Hid _ from VD_c15.out.step bc16)
            have VR_c16 := (show Hid _ from VR_c15.out.step bc16)
            have J1_c16 := (show Hid _ from J1_c15.out.step bc16)
            have N4_c16 := (show Hid _ from N4_c15.out.step bc16)
            have J6_c16 := (show Hid _ from J6_c15.out.step bc16)
            have XV_c16 := (show Hid _ from XV_c15.out.step bc16)
            have N9_c16 := (show Hid _ from N9_c15.out.step bc16)
            have BB_c16 := (show Hid _ from BB_c15.out.trans (bc16.mono BB_c15.out.size))
            rw [HRV.out] at ic16
            have JJ_c16 := (show Hid _ from ic16)
            clear VD_c15 VR_c15 J1_c15 N4_c15 J6_c15 XV_c15 N9_c15 BB_c15
            clear bc16 ic16
            go_wp2_with fail
            refine hK.out _ _ ⟨VD_c16.out, True.intro⟩ (fun hHeld => ?_)
            try simp only [Act.put, List.setIfInBounds_toArray, List.set_cons_zero, List.set_cons_succ]
            clear hK K
            clear hHeld
            obtain ⟨m5, a5, n5, k5, rfl, _⟩ := JJ_c16.out.form
            refine wpAnyH_ready (rs := [13]) (by kernel_rfl) (by simp) ?_
            refine AllReadyH.cons (by exact rfl) (fun K hK => ?_) AllReadyH.nil
            refine stAn (by rfl) (by rfl) 84 _ _ (by rfl) ab (by rfl) [.bool false, .slice none 0 0] [.bool m5, .slice a5 n5 k5] (by rfl) 84 XV_c16.out infoW rfl (il_one _ _ _ _) ?_
            intro w9 v9 u9
            have VD_9 := (show Hid _ from VD_c16.out.upd u9 (by have := HAB.out; omega))
            refine hK.out _ _ ⟨VD_9.out, True.intro⟩ (fun hHeld => ?_)
            clear hK K hHeld
            refine wpAnyH_done (by kernel_rfl) ?_ _
            refine NoPanic.normal ?_
            have XV_9 := (show Hid _ from v9)
            have JJ_9 := (show Hid _ from JJ_c16.out.upd u9 XV_c16.out (by decide))
            have VR_9 := (show Hid _ from VR_c16.out.upd u9 (by have := HAB.out; omega))
            have BB_9 := (show Hid _ from u9.bel BB_c16.out (by have := HAB.out; omega))
            clear v9 u9 VD_9
            clear VD_c16 VR_c16 J1_c16 N4_c16 J6_c16 XV_c16 N9_c16 JJ_c16 BB_c16
            go_wp2_with (refine ldA rfl 84 _ rfl ab (by rfl) [.bool m5, .slice a5 n5 k5] _ XV_9.out _ Tryz.underlying84 rfl infoW ?_)
            refine (small_yes _ R _ JJ_9.out (by have := HR0.out; omega) (by have := HR0.out; omega)).mono ?_
            rintro e wb ⟨rfl, bb⟩
            have VRX := (show Hid _ from VR_9.out.step bb)
            have BBX := (show Hid _ from BB_9.out.trans (bb.mono BB_9.out.size))
            clear bb VR_9 BB_9 JJ_9 XV_9
            go_wp2_with fail
            refine (ramount_ok R _).mono ?_
            rintro e wx ⟨rfl, hq⟩
            obtain rfl := hq.symm
            rw [HWI.out]
            go_wp2_with (refine stA rfl 23 _ _ rfl (w.heap.size + 1) (by rfl) (mcl 0 0) (mcl i R) (by rfl) 23 VRX.out infoM rfl (mcl_one _ _) ?_; intro wf vf uf)
            have hld := run_loadVar_row (P := Tryz.prog) wf (w.heap.size + 1) 23 23 _ (0, 0) _ vf.blk Tryz.underlying23 rfl infoM
            exact bodyPost_ret (v := .tuple #[.agg (mcl i R).toArray, .int .i64 0]) (by simp [results, Tryz.results23, asAddr, hld]) rfl ⟨rfl, uf.bel BBX.out (by omega)⟩
        · go_simp
          have VD_c8 := (show Hid _ from VD_c5.out.alloc (.cells ([.bool false, .slice none 0 0] : List Value).toArray 84))
          have VR_c8 := (show Hid _ from VR_c5.out.alloc (.cells ([.bool false, .slice none 0 0] : List Value).toArray 84))
          have J1_c8 := (show Hid _ from J1_c5.out.alloc (.cells ([.bool false, .slice none 0 0] : List Value).toArray 84))
          have N4_c8 := (show Hid _ from N4_c5.out.alloc (.cells ([.bool false, .slice none 0 0] : List Value).toArray 84))
          have BB_c8 := (show Hid _ from BB_c5.out.alloc BB_c5.out.size (.cells ([.bool false, .slice none 0 0] : List Value).toArray 84))
          have XV_c8 := (show Hid _ from va_new wc5 [.bool false, .slice none 0 0] 84)
          have HAB : Hid (w.heap.size + 1 < wc5.heap.size) := VR_c5.out.lt
          refine hK.out _ _ ⟨VD_c8.out, True.intro⟩ (fun hHeld => ?_)
          try simp only [Act.put, List.setIfInBounds_toArray, List.set_cons_zero, List.set_cons_succ]
          clear hK K hHeld
          clear VD_c5 VR_c5 J1_c5 N4_c5 BB_c5
          change wpAnyH _ _ _ _ _ _ _ _ (wc5.alloc (.cells ([.bool false, .slice none 0 0] : List Value).toArray 84))
          generalize wc5.alloc (.cells ([.bool false, .slice none 0 0] : List Value).toArray 84) = wc8 at *
          generalize wc5.heap.size = ab at *
          refine wpAnyH_ready (rs := [6]) (by kernel_rfl) (by simp) ?_
          refine AllReadyH.cons (by exact rfl) (fun K hK => ?_) AllReadyH.nil
          go_simp
          refine (prod_in v1 _ cc (10 ^ cdg i) _ J1_c8.out (ten_in N4_c8.out) (mi_inr IC.out) (by have := mi_ten (c := 1) ⟨by decide, by decide⟩ (cdg_le i); rw [Int.one_mul] at this; exact this)).mono ?_
          rintro e wc17 ⟨⟨v6, rfl, ic17⟩, bc17⟩
          have VD_c17 := (show Hid _ from VD_c8.out.step bc17)
          have VR_c17 := (show Hid _ from VR_c8.out.step bc17)
          have J1_c17 := (show Hid _ from J1_c8.out.step bc17)
          have N4_c17 := (show Hid _ from N4_c8.out.step bc17)
          have XV_c17 := (show Hid _ from XV_c8.out.step bc17)
          have BB_c17 := (show Hid _ from BB_c8.out.trans (bc17.mono BB_c8.out.size))
          have J6_c17 := (show Hid _ from ic17)
          clear VD_c8 VR_c8 J1_c8 N4_c8 XV_c8 BB_c8
          clear bc17 ic17
          go_wp2_with fail
          refine hK.out _ _ ⟨VD_c17.out, True.intro⟩ (fun hHeld => ?_)
          try simp only [Act.put, List.setIfInBounds_toArray, List.set_cons_zero, List.set_cons_succ]
          clear hK K
          clear hHeld
          refine wpAnyH_ready (rs := [9]) (by kernel_rfl) (by simp) ?_
          refine AllReadyH.cons (by exact rfl) (fun K hK => ?_) AllReadyH.nil
          go_simp
          refine (ten_ok s _ (by have := HS.out; omega)).mono ?_
          rintro e wc18 ⟨⟨r9, rfl, ic18⟩, bc18⟩
          have VD_c18 := (show Hid _ from VD_c17.out.step bc18)
          have VR_c18 := (show Hid _ from VR_c17.out.step bc18)
          have J1_c18 := (show Hid _ from J1_c17.out.step bc18)
          have N4_c18 := (show Hid _ from N4_c17.out.step bc18)
          have XV_c18 := (show Hid _ from XV_c17.out.step bc18)
          have J6_c18 := (show Hid _ from J6_c17.out.step bc18)
          have BB_c18 := (show Hid _ from BB_c17.out.trans (bc18.mono BB_c17.out.size))
          have N9_c18 := (show Hid _ from ic18)
          clear VD_c17 VR_c17 J1_c17 N4_c17 XV_c17 J6_c17 BB_c17
          clear bc18 ic18
          obtain ⟨a9, n9, k9, rfl⟩ := N9_c18.out.form
          go_wp2_with fail
          refine hK.out _ _ ⟨VD_c18.out, True.intro⟩ (fun hHeld => ?_)
          try simp only [Act.put, List.setIfInBounds_toArray, List.set_cons_zero, List.set_cons_succ]
          clear hK K
          clear hHeld
          refine wpAnyH_ready (rs := [11]) (by kernel_rfl) (by simp) ?_
          refine AllReadyH.cons (by exact rfl) (fun K hK => ?_) AllReadyH.nil
          go_simp
          refine (rounded_in v6 _ (cc * 10 ^ cdg i) (10 ^ s) mode _ J6_c18.out N9_c18.out (mi_ten IC.out (cdg_le i)) (ten_md s (by have := HS.out; omega)) (Nat.pow_pos (by decide)) HM.out).mono ?_
          rintro e wc19 ⟨⟨vv, rfl, ic19⟩, bc19⟩
          have VD_c19 := (show Hid _ from VD_c18.out.step bc19)
          have VR_c19 := (show Hid _ from VR_c18.out.step bc19)
          have J1_c19 := (show Hid _ from J1_c18.out.step bc19)
          have N4_c19 := (show Hid _ from N4_c18.out.step bc19)
          have XV_c19 := (show Hid _ from XV_c18.out.step bc19)
          have J6_c19 := (show Hid _ from J6_c18.out.step bc19)
          have N9_c19 := (show Hid _ from N9_c18.out.step bc19)
          have BB_c19 := (show Hid _ from BB_c18.out.trans (bc19.mono BB_c18.out.size))
          rw [HRV.out] at ic19
          have JJ_c19 := (show Hid _ from ic19)
          clear VD_c18 VR_c18 J1_c18 N4_c18 XV_c18 J6_c18 N9_c18 BB_c18
          clear bc19 ic19
          go_wp2_with fail
          refine hK.out _ _ ⟨VD_c19.out, True.intro⟩ (fun hHeld => ?_)
          try simp only [Act.put, List.setIfInBounds_toArray, List.set_cons_zero, List.set_cons_succ]
          clear hK K
          clear hHeld
          obtain ⟨m5, a5, n5, k5, rfl, _⟩ := JJ_c19.out.form
          refine wpAnyH_ready (rs := [13]) (by kernel_rfl) (by simp) ?_
          refine AllReadyH.cons (by exact rfl) (fun K hK => ?_) AllReadyH.nil
          refine stAn (by rfl) (by rfl) 84 _ _ (by rfl) ab (by rfl) [.bool false, .slice none 0 0] [.bool m5, .slice a5 n5 k5] (by rfl) 84 XV_c19.out infoW rfl (il_one _ _ _ _) ?_
          intro w9 v9 u9
          have VD_9 := (show Hid _ from VD_c19.out.upd u9 (by have := HAB.out; omega))
          refine hK.out _ _ ⟨VD_9.out, True.intro⟩ (fun hHeld => ?_)
          clear hK K hHeld
          refine wpAnyH_done (by kernel_rfl) ?_ _
          refine NoPanic.normal ?_
          have XV_9 := (show Hid _ from v9)
          have JJ_9 := (show Hid _ from JJ_c19.out.upd u9 XV_c19.out (by decide))
          have VR_9 := (show Hid _ from VR_c19.out.upd u9 (by have := HAB.out; omega))
          have BB_9 := (show Hid _ from u9.bel BB_c19.out (by have := HAB.out; omega))
          clear v9 u9 VD_9
          clear VD_c19 VR_c19 J1_c19 N4_c19 XV_c19 J6_c19 N9_c19 JJ_c19 BB_c19
          go_wp2_with (refine ldA rfl 84 _ rfl ab (by rfl) [.bool m5, .slice a5 n5 k5] _ XV_9.out _ Tryz.underlying84 rfl infoW ?_)
          refine (small_yes _ R _ JJ_9.out (by have := HR0.out; omega) (by have := HR0.out; omega)).mono ?_
          rintro e wb ⟨rfl, bb⟩
          have VRX := (show Hid _ from VR_9.out.step bb)
          have BBX := (show Hid _ from BB_9.out.trans (bb.mono BB_9.out.size))
          clear bb VR_9 BB_9 JJ_9 XV_9
          go_wp2_with fail
          refine (ramount_ok R _).mono ?_
          rintro e wx ⟨rfl, hq⟩
          obtain rfl := hq.symm
          rw [HWI.out]
          go_wp2_with (refine stA rfl 23 _ _ rfl (w.heap.size + 1) (by rfl) (mcl 0 0) (mcl i R) (by rfl) 23 VRX.out infoM rfl (mcl_one _ _) ?_; intro wf vf uf)
          have hld := run_loadVar_row (P := Tryz.prog) wf (w.heap.size + 1) 23 23 _ (0, 0) _ vf.blk Tryz.underlying23 rfl infoM
          exact bodyPost_ret (v := .tuple #[.agg (mcl i R).toArray, .int .i64 0]) (by simp [results, Tryz.results23, asAddr, hld]) rfl ⟨rfl, uf.bel BBX.out (by omega)⟩
      · go_simp
        have VD_c6 := (show Hid _ from VD_c1.out.alloc (.cells ([.bool false, .slice none 0 0] : List Value).toArray 84))
        have VR_c6 := (show Hid _ from VR_c1.out.alloc (.cells ([.bool false, .slice none 0 0] : List Value).toArray 84))
        have J1_c6 := (show Hid _ from J1_c1.out.alloc (.cells ([.bool false, .slice none 0 0] : List Value).toArray 84))
        have BB_c6 := (show Hid _ from BB_c1.out.alloc BB_c1.out.size (.cells ([.bool false, .slice none 0 0] : List Value).toArray 84))
        have XV_c6 := (show Hid _ from va_new wc1 [.bool false, .slice none 0 0] 84)
        have HAB : Hid (w.heap.size + 1 < wc1.heap.size) := VR_c1.out.lt
        refine hK.out _ _ ⟨VD_c6.out, True.intro⟩ (fun hHeld => ?_)
        try simp only [Act.put, List.setIfInBounds_toArray, List.set_cons_zero, List.set_cons_succ]
        clear hK K hHeld
        clear VD_c1 VR_c1 J1_c1 BB_c1
        change wpAnyH _ _ _ _ _ _ _ _ (wc1.alloc (.cells ([.bool false, .slice none 0 0] : List Value).toArray 84))
        generalize wc1.alloc (.cells ([.bool false, .slice none 0 0] : List Value).toArray 84) = wc6 at *
        generalize wc1.heap.size = ab at *
        refine wpAnyH_ready (rs := [4]) (by kernel_rfl) (by simp) ?_
        refine AllReadyH.cons (by exact rfl) (fun K hK => ?_) AllReadyH.nil
        go_simp
        refine (ten_ok (cdg i) _ (by have := cdg_le i; omega)).mono ?_
        rintro e wc20 ⟨⟨r4, rfl, ic20⟩, bc20⟩
        have VD_c20 := (show Hid _ from VD_c6.out.step bc20)
        have VR_c20 := (show Hid _ from VR_c6.out.step bc20)
        have J1_c20 := (show Hid _ from J1_c6.out.step bc20)
        have XV_c20 := (show Hid _ from XV_c6.out.step bc20)
        have BB_c20 := (show Hid _ from BB_c6.out.trans (bc20.mono BB_c6.out.size))
        have N4_c20 := (show Hid _ from ic20)
        clear VD_c6 VR_c6 J1_c6 XV_c6 BB_c6
        clear bc20 ic20
        obtain ⟨a4, n4, k4, rfl⟩ := N4_c20.out.form
        go_wp2_with fail
        refine hK.out _ _ ⟨VD_c20.out, True.intro⟩ (fun hHeld => ?_)
        try simp only [Act.put, List.setIfInBounds_toArray, List.set_cons_zero, List.set_cons_succ]
        clear hK K
        refine takeD 5 32 (.agg #[.bool false, .slice a4 n4 k4]) (by exact rfl) rfl (by kernel_rfl) (by kernel_rfl) (by kernel_rfl) (fun _ _ _ h => h) (Or.inl ⟨by rfl, ?_⟩) (by assumption) ?_
        · intro wq hS
          go_simp
        try simp only [Act.put, List.setIfInBounds_toArray, List.set_cons_zero, List.set_cons_succ]
        clear hHeld
        refine wpAnyH_ready (rs := [6]) (by kernel_rfl) (by simp) ?_
        refine AllReadyH.cons (by exact rfl) (fun K hK => ?_) AllReadyH.nil
        go_simp
        refine (prod_in v1 _ cc (10 ^ cdg i) _ J1_c20.out (ten_in N4_c20.out) (mi_inr IC.out) (by have := mi_ten (c := 1) ⟨by decide, by decide⟩ (cdg_le i); rw [Int.one_mul] at this; exact this)).mono ?_
        rintro e wc21 ⟨⟨v6, rfl, ic21⟩, bc21⟩
        have VD_c21 := (show Hid _ from VD_c20.out.step bc21)
        have VR_c21 := (show Hid _ from VR_c20.out.step bc21)
        have J1_c21 := (show Hid _ from J1_c20.out.step bc21)
        have XV_c21 := (show Hid _ from XV_c20.out.step bc21)
        have N4_c21 := (show Hid _ from N4_c20.out.step bc21)
        have BB_c21 := (show Hid _ from BB_c20.out.trans (bc21.mono BB_c20.out.size))
        have J6_c21 := (show Hid _ from ic21)
        clear VD_c20 VR_c20 J1_c20 XV_c20 N4_c20 BB_c20
        clear bc21 ic21
        go_wp2_with fail
        refine hK.out _ _ ⟨VD_c21.out, True.intro⟩ (fun hHeld => ?_)
        try simp only [Act.put, List.setIfInBounds_toArray, List.set_cons_zero, List.set_cons_succ]
        clear hK K
        clear hHeld
        refine wpAnyH_ready (rs := [9]) (by kernel_rfl) (by simp) ?_
        refine AllReadyH.cons (by exact rfl) (fun K hK => ?_) AllReadyH.nil
        go_simp
        refine (ten_ok s _ (by have := HS.out; omega)).mono ?_
        rintro e wc22 ⟨⟨r9, rfl, ic22⟩, bc22⟩
        have VD_c22 := (show Hid _ from VD_c21.out.step bc22)
        have VR_c22 := (show Hid _ from VR_c21.out.step bc22)
        have J1_c22 := (show Hid _ from J1_c21.out.step bc22)
        have XV_c22 := (show Hid _ from XV_c21.out.step bc22)
        have N4_c22 := (show Hid _ from N4_c21.out.step bc22)
        have J6_c22 := (show Hid _ from J6_c21.out.step bc22)
        have BB_c22 := (show Hid _ from BB_c21.out.trans (bc22.mono BB_c21.out.size))
        have N9_c22 := (show Hid _ from ic22)
        clear VD_c21 VR_c21 J1_c21 XV_c21 N4_c21 J6_c21 BB_c21
        clear bc22 ic22
        obtain ⟨a9, n9, k9, rfl⟩ := N9_c22.out.form
        go_wp2_with fail
        refine hK.out _ _ ⟨VD_c22.out, True.intro⟩ (fun hHeld => ?_)
        try simp only [Act.put, List.setIfInBounds_toArray, List.set_cons_zero, List.set_cons_succ]
        clear hK K
        clear hHeld
        refine wpAnyH_ready (rs := [11]) (by kernel_rfl) (by simp) ?_
        refine AllReadyH.cons (by exact rfl) (fun K hK => ?_) AllReadyH.nil
        go_simp
        refine (rounded_in v6 _ (cc * 10 ^ cdg i) (10 ^ s) mode _ J6_c22.out N9_c22.out (mi_ten IC.out (cdg_le i)) (ten_md s (by have := HS.out; omega)) (Nat.pow_pos (by decide)) HM.out).mono ?_
        rintro e wc23 ⟨⟨vv, rfl, ic23⟩, bc23⟩
        have VD_c23 := (show Hid _ from VD_c22.out.step bc23)
        have VR_c23 := (show Hid _ from VR_c22.out.step bc23)
        have J1_c23 := (show Hid _ from J1_c22.out.step bc23)
        have XV_c23 := (show Hid _ from XV_c22.out.step bc23)
        have N4_c23 := (show Hid _ from N4_c22.out.step bc23)
        have J6_c23 := (show Hid _ from J6_c22.out.step bc23)
        have N9_c23 := (show Hid _ from N9_c22.out.step bc23)
        have BB_c23 := (show Hid _ from BB_c22.out.trans (bc23.mono BB_c22.out.size))
        rw [HRV.out] at ic23
        have JJ_c23 := (show Hid _ from ic23)
        clear VD_c22 VR_c22 J1_c22 XV_c22 N4_c22 J6_c22 N9_c22 BB_c22
        clear bc23 ic23
        go_wp2_with fail
        refine hK.out _ _ ⟨VD_c23.out, True.intro⟩ (fun hHeld => ?_)
        try simp only [Act.put, List.setIfInBounds_toArray, List.set_cons_zero, List.set_cons_succ]
        clear hK K
        clear hHeld
        obtain ⟨m5, a5, n5, k5, rfl, _⟩ := JJ_c23.out.form
        refine wpAnyH_ready (rs := [13]) (by kernel_rfl) (by simp) ?_
        refine AllReadyH.cons (by exact rfl) (fun K hK => ?_) AllReadyH.nil
        refine stAn (by rfl) (by rfl) 84 _ _ (by rfl) ab (by rfl) [.bool false, .slice none 0 0] [.bool m5, .slice a5 n5 k5] (by rfl) 84 XV_c23.out infoW rfl (il_one _ _ _ _) ?_
        intro w9 v9 u9
        have VD_9 := (show Hid _ from VD_c23.out.upd u9 (by have := HAB.out; omega))
        refine hK.out _ _ ⟨VD_9.out, True.intro⟩ (fun hHeld => ?_)
        clear hK K hHeld
        refine wpAnyH_done (by kernel_rfl) ?_ _
        refine NoPanic.normal ?_
        have XV_9 := (show Hid _ from v9)
        have JJ_9 := (show Hid _ from JJ_c23.out.upd u9 XV_c23.out (by decide))
        have VR_9 := (show Hid _ from VR_c23.out.upd u9 (by have := HAB.out; omega))
        have BB_9 := (show Hid _ from u9.bel BB_c23.out (by have := HAB.out; omega))
        clear v9 u9 VD_9
        clear VD_c23 VR_c23 J1_c23 XV_c23 N4_c23 J6_c23 N9_c23 JJ_c23 BB_c23
        go_wp2_with (refine ldA rfl 84 _ rfl ab (by rfl) [.bool m5, .slice a5 n5 k5] _ XV_9.out _ Tryz.underlying84 rfl infoW ?_)
        refine (small_yes _ R _ JJ_9.out (by have := HR0.out; omega) (by have := HR0.out; omega)).mono ?_
        rintro e wb ⟨rfl, bb⟩
        have VRX := (show Hid _ from VR_9.out.step bb)
        have BBX := (show Hid _ from BB_9.out.trans (bb.mono BB_9.out.size))
        clear bb VR_9 BB_9 JJ_9 XV_9
        go_wp2_with fail
        refine (ramount_ok R _).mono ?_
        rintro e wx ⟨rfl, hq⟩
        obtain rfl := hq.symm
        rw [HWI.out]
        go_wp2_with (refine stA rfl 23 _ _ rfl (w.heap.size + 1) (by rfl) (mcl 0 0) (mcl i R) (by rfl) 23 VRX.out infoM rfl (mcl_one _ _) ?_; intro wf vf uf)
        have hld := run_loadVar_row (P := Tryz.prog) wf (w.heap.size + 1) 23 23 _ (0, 0) _ vf.blk Tryz.underlying23 rfl infoM
        exact bodyPost_ret (v := .tuple #[.agg (mcl i R).toArray, .int .i64 0]) (by simp [results, Tryz.results23, asAddr, hld]) rfl ⟨rfl, uf.bel BBX.out (by omega)⟩
    · go_simp
      have VD_c4 := (show Hid _ from VD_c1.out.alloc (.cells ([.bool false, .slice none 0 0] : List Value).toArray 84))
      have VR_c4 := (show Hid _ from VR_c1.out.alloc (.cells ([.bool false, .slice none 0 0] : List Value).toArray 84))
      have J1_c4 := (show Hid _ from J1_c1.out.alloc (.cells ([.bool false, .slice none 0 0] : List Value).toArray 84))
      have BB_c4 := (show Hid _ from BB_c1.out.alloc BB_c1.out.size (.cells ([.bool false, .slice none 0 0] : List Value).toArray 84))
      have XV_c4 := (show Hid _ from va_new wc1 [.bool false, .slice none 0 0] 84)
      have HAB : Hid (w.heap.size + 1 < wc1.heap.size) := VR_c1.out.lt
      refine hK.out _ _ ⟨VD_c4.out, True.intro⟩ (fun hHeld => ?_)
      try simp only [Act.put, List.setIfInBounds_toArray, List.set_cons_zero, List.set_cons_succ]
      clear hK K hHeld
      clear VD_c1 VR_c1 J1_c1 BB_c1
      change wpAnyH _ _ _ _ _ _ _ _ (wc1.alloc (.cells ([.bool false, .slice none 0 0] : List Value).toArray 84))
      generalize wc1.alloc (.cells ([.bool false, .slice none 0 0] : List Value).toArray 84) = wc4 at *
      generalize wc1.heap.size = ab at *
      refine wpAnyH_ready (rs := [3]) (by kernel_rfl) (by simp) ?_
      refine AllReadyH.cons (by exact rfl) (fun K hK => ?_) AllReadyH.nil
      go_simp
      refine (rdigits_ok i _ hi).mono ?_
      rintro e wx ⟨rfl, hq⟩
      obtain rfl := hq.symm
      go_wp2_with fail
      refine hK.out _ _ ⟨VD_c4.out, True.intro⟩ (fun hHeld => ?_)
      try simp only [Act.put, List.setIfInBounds_toArray, List.set_cons_zero, List.set_cons_succ]
      clear hK K hHeld
      refine wpAnyH_ready (rs := [4]) (by kernel_rfl) (by simp) ?_
      refine AllReadyH.cons (by exact rfl) (fun K hK => ?_) AllReadyH.nil
      go_simp
      refine (ten_ok (cdg i) _ (by have := cdg_le i; omega)).mono ?_
      rintro e wc25 ⟨⟨r4, rfl, ic25⟩, bc25⟩
      have VD_c25 := (show Hid _ from VD_c4.out.step bc25)
      have VR_c25 := (show Hid _ from VR_c4.out.step bc25)
      have J1_c25 := (show Hid _ from J1_c4.out.step bc25)
      have XV_c25 := (show Hid _ from XV_c4.out.step bc25)
      have BB_c25 := (show Hid _ from BB_c4.out.trans (bc25.mono BB_c4.out.size))
      have N4_c25 := (show Hid _ from ic25)
      clear VD_c4 VR_c4 J1_c4 XV_c4 BB_c4
      clear bc25 ic25
      obtain ⟨a4, n4, k4, rfl⟩ := N4_c25.out.form
      go_wp2_with fail
      refine hK.out _ _ ⟨VD_c25.out, True.intro⟩ (fun hHeld => ?_)
      try simp only [Act.put, List.setIfInBounds_toArray, List.set_cons_zero, List.set_cons_succ]
      clear hK K
      refine takeD 5 32 (.agg #[.bool false, .slice a4 n4 k4]) (by exact rfl) rfl (by kernel_rfl) (by kernel_rfl) (by kernel_rfl) (fun _ _ _ h => h) (Or.inl ⟨by rfl, ?_⟩) (by assumption) ?_
      · intro wq hS
        go_simp
      try simp only [Act.put, List.setIfInBounds_toArray, List.set_cons_zero, List.set_cons_succ]
      clear hHeld
      refine wpAnyH_ready (rs := [6]) (by kernel_rfl) (by simp) ?_
      refine AllReadyH.cons (by exact rfl) (fun K hK => ?_) AllReadyH.nil
      go_simp
      refine (prod_in v1 _ cc (10 ^ cdg i) _ J1_c25.out (ten_in N4_c25.out) (mi_inr IC.out) (by have := mi_ten (c := 1) ⟨by decide, by decide⟩ (cdg_le i); rw [Int.one_mul] at this; exact this)).mono ?_
      rintro e wc26 ⟨⟨v6, rfl, ic26⟩, bc26⟩
      have VD_c26 := (show Hid _ from VD_c25.out.step bc26)
      have VR_c26 := (show Hid _ from VR_c25.out.step bc26)
      have J1_c26 := (show Hid _ from J1_c25.out.step bc26)
      have XV_c26 := (show Hid _ from XV_c25.out.step bc26)
      have N4_c26 := (show Hid _ from N4_c25.out.step bc26)
      have BB_c26 := (show Hid _ from BB_c25.out.trans (bc26.mono BB_c25.out.size))
      have J6_c26 := (show Hid _ from ic26)
      clear VD_c25 VR_c25 J1_c25 XV_c25 N4_c25 BB_c25
      clear bc26 ic26
      go_wp2_with fail
      refine hK.out _ _ ⟨VD_c26.out, True.intro⟩ (fun hHeld => ?_)
      try simp only [Act.put, List.setIfInBounds_toArray, List.set_cons_zero, List.set_cons_succ]
      clear hK K
      clear hHeld
      refine wpAnyH_ready (rs := [9]) (by kernel_rfl) (by simp) ?_
      refine AllReadyH.cons (by exact rfl) (fun K hK => ?_) AllReadyH.nil
      go_simp
      refine (ten_ok s _ (by have := HS.out; omega)).mono ?_
      rintro e wc27 ⟨⟨r9, rfl, ic27⟩, bc27⟩
      have VD_c27 := (show Hid _ from VD_c26.out.step bc27)
      have VR_c27 := (show Hid _ from VR_c26.out.step bc27)
      have J1_c27 := (show Hid _ from J1_c26.out.step bc27)
      have XV_c27 := (show Hid _ from XV_c26.out.step bc27)
      have N4_c27 := (show Hid _ from N4_c26.out.step bc27)
      have J6_c27 := (show Hid _ from J6_c26.out.step bc27)
      have BB_c27 := (show Hid _ from BB_c26.out.trans (bc27.mono BB_c26.out.size))
      have N9_c27 := (show Hid _ from ic27)
      clear VD_c26 VR_c26 J1_c26 XV_c26 N4_c26 J6_c26 BB_c26
      clear bc27 ic27
      obtain ⟨a9, n9, k9, rfl⟩ := N9_c27.out.form
      go_wp2_with fail
      refine hK.out _ _ ⟨VD_c27.out, True.intro⟩ (fun hHeld => ?_)
      try simp only [Act.put, List.setIfInBounds_toArray, List.set_cons_zero, List.set_cons_succ]
      clear hK K
      clear hHeld
      refine wpAnyH_ready (rs := [11]) (by kernel_rfl) (by simp) ?_
      refine AllReadyH.cons (by exact rfl) (fun K hK => ?_) AllReadyH.nil
      go_simp
      refine (rounded_in v6 _ (cc * 10 ^ cdg i) (10 ^ s) mode _ J6_c27.out N9_c27.out (mi_ten IC.out (cdg_le i)) (ten_md s (by have := HS.out; omega)) (Nat.pow_pos (by decide)) HM.out).mono ?_
      rintro e wc28 ⟨⟨vv, rfl, ic28⟩, bc28⟩
      have VD_c28 := (show Hid _ from VD_c27.out.step bc28)
      have VR_c28 := (show Hid _ from VR_c27.out.step bc28)
      have J1_c28 := (show Hid _ from J1_c27.out.step bc28)
      have XV_c28 := (show Hid _ from XV_c27.out.step bc28)
      have N4_c28 := (show Hid _ from N4_c27.out.step bc28)
      have J6_c28 := (show Hid _ from J6_c27.out.step bc28)
      have N9_c28 := (show Hid _ from N9_c27.out.step bc28)
      have BB_c28 := (show Hid _ from BB_c27.out.trans (bc28.mono BB_c27.out.size))
      rw [HRV.out] at ic28
      have JJ_c28 := (show Hid _ from ic28)
      clear VD_c27 VR_c27 J1_c27 XV_c27 N4_c27 J6_c27 N9_c27 BB_c27
      clear bc28 ic28
      go_wp2_with fail
      refine hK.out _ _ ⟨VD_c28.out, True.intro⟩ (fun hHeld => ?_)
      try simp only [Act.put, List.setIfInBounds_toArray, List.set_cons_zero, List.set_cons_succ]
      clear hK K
      clear hHeld
      obtain ⟨m5, a5, n5, k5, rfl, _⟩ := JJ_c28.out.form
      refine wpAnyH_ready (rs := [13]) (by kernel_rfl) (by simp) ?_
      refine AllReadyH.cons (by exact rfl) (fun K hK => ?_) AllReadyH.nil
      refine stAn (by rfl) (by rfl) 84 _ _ (by rfl) ab (by rfl) [.bool false, .slice none 0 0] [.bool m5, .slice a5 n5 k5] (by rfl) 84 XV_c28.out infoW rfl (il_one _ _ _ _) ?_
      intro w9 v9 u9
      have VD_9 := (show Hid _ from VD_c28.out.upd u9 (by have := HAB.out; omega))
      refine hK.out _ _ ⟨VD_9.out, True.intro⟩ (fun hHeld => ?_)
      clear hK K hHeld
      refine wpAnyH_done (by kernel_rfl) ?_ _
      refine NoPanic.normal ?_
      have XV_9 := (show Hid _ from v9)
      have JJ_9 := (show Hid _ from JJ_c28.out.upd u9 XV_c28.out (by decide))
      have VR_9 := (show Hid _ from VR_c28.out.upd u9 (by have := HAB.out; omega))
      have BB_9 := (show Hid _ from u9.bel BB_c28.out (by have := HAB.out; omega))
      clear v9 u9 VD_9
      clear VD_c28 VR_c28 J1_c28 XV_c28 N4_c28 J6_c28 N9_c28 JJ_c28 BB_c28
      go_wp2_with (refine ldA rfl 84 _ rfl ab (by rfl) [.bool m5, .slice a5 n5 k5] _ XV_9.out _ Tryz.underlying84 rfl infoW ?_)
      refine (small_yes _ R _ JJ_9.out (by have := HR0.out; omega) (by have := HR0.out; omega)).mono ?_
      rintro e wb ⟨rfl, bb⟩
      have VRX := (show Hid _ from VR_9.out.step bb)
      have BBX := (show Hid _ from BB_9.out.trans (bb.mono BB_9.out.size))
      clear bb VR_9 BB_9 JJ_9 XV_9
      go_wp2_with fail
      refine (ramount_ok R _).mono ?_
      rintro e wx ⟨rfl, hq⟩
      obtain rfl := hq.symm
      rw [HWI.out]
      go_wp2_with (refine stA rfl 23 _ _ rfl (w.heap.size + 1) (by rfl) (mcl 0 0) (mcl i R) (by rfl) 23 VRX.out infoM rfl (mcl_one _ _) ?_; intro wf vf uf)
      have hld := run_loadVar_row (P := Tryz.prog) wf (w.heap.size + 1) 23 23 _ (0, 0) _ vf.blk Tryz.underlying23 rfl infoM
      exact bodyPost_ret (v := .tuple #[.agg (mcl i R).toArray, .int .i64 0]) (by simp [results, Tryz.results23, asAddr, hld]) rfl ⟨rfl, uf.bel BBX.out (by omega)⟩
  · go_simp
    have VD_c2 := (show Hid _ from VD_z.out.alloc (.cells ([.bool false, .slice none 0 0] : List Value).toArray 84))
    have VR_c2 := (show Hid _ from VR_z.out.alloc (.cells ([.bool false, .slice none 0 0] : List Value).toArray 84))
    have BB_c2 := (show Hid _ from BB_z.out.alloc BB_z.out.size (.cells ([.bool false, .slice none 0 0] : List Value).toArray 84))
    have XV_c2 := (show Hid _ from va_new wz [.bool false, .slice none 0 0] 84)
    have HAB : Hid (w.heap.size + 1 < wz.heap.size) := VR_z.out.lt
    refine hK.out _ _ ⟨VD_c2.out, True.intro⟩ (fun hHeld => ?_)
    try simp only [Act.put, List.setIfInBounds_toArray, List.set_cons_zero, List.set_cons_succ]
    clear hK K hHeld
    clear VD_z VR_z BB_z
    change wpAnyH _ _ _ _ _ _ _ _ (wz.alloc (.cells ([.bool false, .slice none 0 0] : List Value).toArray 84))
    generalize wz.alloc (.cells ([.bool false, .slice none 0 0] : List Value).toArray 84) = wc2 at *
    generalize wz.heap.size = ab at *
    refine wpAnyH_ready (rs := [1]) (by kernel_rfl) (by simp) ?_
    refine AllReadyH.cons (by exact rfl) (fun K hK => ?_) AllReadyH.nil
    go_simp
    refine (coef_ok cc s _ IC.out).mono ?_
    rintro e wc29 ⟨⟨v1, rfl, ic29⟩, bc29⟩
    have VD_c29 := (show Hid _ from VD_c2.out.step bc29)
    have VR_c29 := (show Hid _ from VR_c2.out.step bc29)
    have XV_c29 := (show Hid _ from XV_c2.out.step bc29)
    have BB_c29 := (show Hid _ from BB_c2.out.trans (bc29.mono BB_c2.out.size))
    have J1_c29 := (show Hid _ from ic29)
    clear VD_c2 VR_c2 XV_c2 BB_c2
    clear bc29 ic29
    go_wp2_with fail
    refine hK.out _ _ ⟨VD_c29.out, True.intro⟩ (fun hHeld => ?_)
    try simp only [Act.put, List.setIfInBounds_toArray, List.set_cons_zero, List.set_cons_succ]
    clear hK K
    clear hHeld
    refine wpAnyH_ready (rs := [3]) (by kernel_rfl) (by simp) ?_
    refine AllReadyH.cons (by exact rfl) (fun K hK => ?_) AllReadyH.nil
    go_simp
    refine (rdigits_ok i _ hi).mono ?_
    rintro e wx ⟨rfl, hq⟩
    obtain rfl := hq.symm
    go_wp2_with fail
    refine hK.out _ _ ⟨VD_c29.out, True.intro⟩ (fun hHeld => ?_)
    try simp only [Act.put, List.setIfInBounds_toArray, List.set_cons_zero, List.set_cons_succ]
    clear hK K hHeld
    refine wpAnyH_ready (rs := [4]) (by kernel_rfl) (by simp) ?_
    refine AllReadyH.cons (by exact rfl) (fun K hK => ?_) AllReadyH.nil
    go_simp
    refine (ten_ok (cdg i) _ (by have := cdg_le i; omega)).mono ?_
    rintro e wc31 ⟨⟨r4, rfl, ic31⟩, bc31⟩
    have VD_c31 := (show Hid _ from VD_c29.out.step bc31)
    have VR_c31 := (show Hid _ from VR_c29.out.step bc31)
    have XV_c31 := (show Hid _ from XV_c29.out.step bc31)
    have J1_c31 := (show Hid _ from J1_c29.out.step bc31)
    have BB_c31 := (show Hid _ from BB_c29.out.trans (bc31.mono BB_c29.out.size))
    have N4_c31 := (show Hid _ from ic31)
    clear VD_c29 VR_c29 XV_c29 J1_c29 BB_c29
    clear bc31 ic31
    obtain ⟨a4, n4, k4, rfl⟩ := N4_c31.out.form
    go_wp2_with fail
    refine hK.out _ _ ⟨VD_c31.out, True.intro⟩ (fun hHeld => ?_)
    try simp only [Act.put, List.setIfInBounds_toArray, List.set_cons_zero, List.set_cons_succ]
    clear hK K
    refine takeD 5 32 (.agg #[.bool false, .slice a4 n4 k4]) (by exact rfl) rfl (by kernel_rfl) (by kernel_rfl) (by kernel_rfl) (fun _ _ _ h => h) (Or.inl ⟨by rfl, ?_⟩) (by assumption) ?_
    · intro wq hS
      go_simp
    try simp only [Act.put, List.setIfInBounds_toArray, List.set_cons_zero, List.set_cons_succ]
    clear hHeld
    refine wpAnyH_ready (rs := [6]) (by kernel_rfl) (by simp) ?_
    refine AllReadyH.cons (by exact rfl) (fun K hK => ?_) AllReadyH.nil
    go_simp
    refine (prod_in v1 _ cc (10 ^ cdg i) _ J1_c31.out (ten_in N4_c31.out) (mi_inr IC.out) (by have := mi_ten (c := 1) ⟨by decide, by decide⟩ (cdg_le i); rw [Int.one_mul] at this; exact this)).mono ?_
    rintro e wc32 ⟨⟨v6, rfl, ic32⟩, bc32⟩
    have VD_c32 := (show Hid _ from VD_c31.out.step bc32)
    have VR_c32 := (show Hid _ from VR_c31.out.step bc32)
    have XV_c32 := (show Hid _ from XV_c31.out.step bc32)
    have J1_c32 := (show Hid _ from J1_c31.out.step bc32)
    have N4_c32 := (show Hid _ from N4_c31.out.step bc32)
    have BB_c32 := (show Hid _ from BB_c31.out.trans (bc32.mono BB_c31.out.size))
    have J6_c32 := (show Hid _ from ic32)
    clear VD_c31 VR_c31 XV_c31 J1_c31 N4_c31 BB_c31
    clear bc32 ic32
    go_wp2_with fail
    refine hK.out _ _ ⟨VD_c32.out, True.intro⟩ (fun hHeld => ?_)
    try simp only [Act.put, List.setIfInBounds_toArray, List.set_cons_zero, List.set_cons_succ]
    clear hK K
    clear hHeld
    refine wpAnyH_ready (rs := [9]) (by kernel_rfl) (by simp) ?_
    refine AllReadyH.cons (by exact rfl) (fun K hK => ?_) AllReadyH.nil
    go_simp
    refine (ten_ok s _ (by have := HS.out; omega)).mono ?_
    rintro e wc33 ⟨⟨r9, rfl, ic33⟩, bc33⟩
    have VD_c33 := (show Hid _ from VD_c32.out.step bc33)
    have VR_c33 := (show Hid _ from VR_c32.out.step bc33)
    have XV_c33 := (show Hid _ from XV_c32.out.step bc33)
    have J1_c33 := (show Hid _ from J1_c32.out.step bc33)
    have N4_c33 := (show Hid _ from N4_c32.out.step bc33)
    have J6_c33 := (show Hid _ from J6_c32.out.step bc33)
    have BB_c33 := (show Hid _ from BB_c32.out.trans (bc33.mono BB_c32.out.size))
    have N9_c33 := (show Hid _ from ic33)
    clear VD_c32 VR_c32 XV_c32 J1_c32 N4_c32 J6_c32 BB_c32
    clear bc33 ic33
    obtain ⟨a9, n9, k9, rfl⟩ := N9_c33.out.form
    go_wp2_with fail
    refine hK.out _ _ ⟨VD_c33.out, True.intro⟩ (fun hHeld => ?_)
    try simp only [Act.put, List.setIfInBounds_toArray, List.set_cons_zero, List.set_cons_succ]
    clear hK K
    clear hHeld
    refine wpAnyH_ready (rs := [11]) (by kernel_rfl) (by simp) ?_
    refine AllReadyH.cons (by exact rfl) (fun K hK => ?_) AllReadyH.nil
    go_simp
    refine (rounded_in v6 _ (cc * 10 ^ cdg i) (10 ^ s) mode _ J6_c33.out N9_c33.out (mi_ten IC.out (cdg_le i)) (ten_md s (by have := HS.out; omega)) (Nat.pow_pos (by decide)) HM.out).mono ?_
    rintro e wc34 ⟨⟨vv, rfl, ic34⟩, bc34⟩
    have VD_c34 := (show Hid _ from VD_c33.out.step bc34)
    have VR_c34 := (show Hid _ from VR_c33.out.step bc34)
    have XV_c34 := (show Hid _ from XV_c33.out.step bc34)
    have J1_c34 := (show Hid _ from J1_c33.out.step bc34)
    have N4_c34 := (show Hid _ from N4_c33.out.step bc34)
    have J6_c34 := (show Hid _ from J6_c33.out.step bc34)
    have N9_c34 := (show Hid _ from N9_c33.out.step bc34)
    have BB_c34 := (show Hid _ from BB_c33.out.trans (bc34.mono BB_c33.out.size))
    rw [HRV.out] at ic34
    have JJ_c34 := (show Hid _ from ic34)
    clear VD_c33 VR_c33 XV_c33 J1_c33 N4_c33 J6_c33 N9_c33 BB_c33
    clear bc34 ic34
    go_wp2_with fail
    refine hK.out _ _ ⟨VD_c34.out, True.intro⟩ (fun hHeld => ?_)
    try simp only [Act.put, List.setIfInBounds_toArray, List.set_cons_zero, List.set_cons_succ]
    clear hK K
    clear hHeld
    obtain ⟨m5, a5, n5, k5, rfl, _⟩ := JJ_c34.out.form
    refine wpAnyH_ready (rs := [13]) (by kernel_rfl) (by simp) ?_
    refine AllReadyH.cons (by exact rfl) (fun K hK => ?_) AllReadyH.nil
    refine stAn (by rfl) (by rfl) 84 _ _ (by rfl) ab (by rfl) [.bool false, .slice none 0 0] [.bool m5, .slice a5 n5 k5] (by rfl) 84 XV_c34.out infoW rfl (il_one _ _ _ _) ?_
    intro w9 v9 u9
    have VD_9 := (show Hid _ from VD_c34.out.upd u9 (by have := HAB.out; omega))
    refine hK.out _ _ ⟨VD_9.out, True.intro⟩ (fun hHeld => ?_)
    clear hK K hHeld
    refine wpAnyH_done (by kernel_rfl) ?_ _
    refine NoPanic.normal ?_
    have XV_9 := (show Hid _ from v9)
    have JJ_9 := (show Hid _ from JJ_c34.out.upd u9 XV_c34.out (by decide))
    have VR_9 := (show Hid _ from VR_c34.out.upd u9 (by have := HAB.out; omega))
    have BB_9 := (show Hid _ from u9.bel BB_c34.out (by have := HAB.out; omega))
    clear v9 u9 VD_9
    clear VD_c34 VR_c34 XV_c34 J1_c34 N4_c34 J6_c34 N9_c34 JJ_c34 BB_c34
    go_wp2_with (refine ldA rfl 84 _ rfl ab (by rfl) [.bool m5, .slice a5 n5 k5] _ XV_9.out _ Tryz.underlying84 rfl infoW ?_)
    refine (small_yes _ R _ JJ_9.out (by have := HR0.out; omega) (by have := HR0.out; omega)).mono ?_
    rintro e wb ⟨rfl, bb⟩
    have VRX := (show Hid _ from VR_9.out.step bb)
    have BBX := (show Hid _ from BB_9.out.trans (bb.mono BB_9.out.size))
    clear bb VR_9 BB_9 JJ_9 XV_9
    go_wp2_with fail
    refine (ramount_ok R _).mono ?_
    rintro e wx ⟨rfl, hq⟩
    obtain rfl := hq.symm
    rw [HWI.out]
    go_wp2_with (refine stA rfl 23 _ _ rfl (w.heap.size + 1) (by rfl) (mcl 0 0) (mcl i R) (by rfl) 23 VRX.out infoM rfl (mcl_one _ _) ?_; intro wf vf uf)
    have hld := run_loadVar_row (P := Tryz.prog) wf (w.heap.size + 1) 23 23 _ (0, 0) _ vf.blk Tryz.underlying23 rfl infoM
    exact bodyPost_ret (v := .tuple #[.agg (mcl i R).toArray, .int .i64 0]) (by simp [results, Tryz.results23, asAddr, hld]) rfl ⟨rfl, uf.bel BBX.out (by omega)⟩
set_option maxHeartbeats 20000000 in
set_option maxRecDepth 100000 in
theorem dof_big (cc : Int) (s i mode : Nat) (R : Int) (w : World) (ic : InR cc) (hs : (s : Int) ≤ 18) (hi : i < 4) (hm : mode ≤ 6) (hR : R = rv cc s (cdg i) mode) (hr : ¬ (-10000000000000 ≤ R ∧ R ≤ 10000000000000)) (h64 : -9223372036854775808 ≤ R ∧ R ≤ 9223372036854775807) :
    Calls Tryz.prog 23 #[.agg (dcs cc s).toArray, .int .i64 i, .int .i64 mode] w fun e w' => e = .returned (.tuple #[.agg (mcl 0 0).toArray, .int .i64 4]) ∧ Below w.heap.size w w' := by
  have HRV : Hid (sv (decide (cc * 10 ^ cdg i < 0)) (rnd (decide (cc * 10 ^ cdg i < 0)) (cc * 10 ^ cdg i).natAbs (10 ^ s) mode) = R) := by
    show sv (decide (cc * 10 ^ cdg i < 0)) (rnd (decide (cc * 10 ^ cdg i < 0)) (cc * 10 ^ cdg i).natAbs (10 ^ s) mode) = R
    rw [rv_eq, hR]
  have IC : Hid (InR cc) := ic
  have HS := (show Hid _ from hs)
  have HM := (show Hid _ from hm)
  have HR0 := (show Hid _ from h64)
  have HWI : Hid (wi R (-10000000000000) 10000000000000 = false) := wi_no hr
  clear hr h64
  have VD_0 := (show Hid _ from (va_new w (dcs cc s) 41).alloc (.cells (mcl 0 0).toArray 23))
  have VR_0 := (show Hid _ from va_new (w.alloc (.cells (dcs cc s).toArray 41)) (mcl 0 0) 23)
  rw [show (w.alloc (.cells (dcs cc s).toArray 41)).heap.size = w.heap.size + 1 by simp] at VR_0
  have BB_0 := (show Hid _ from ((Below.refl w.heap.size w).alloc (Nat.le_refl _) (.cells (dcs cc s).toArray 41)).alloc (by simp) (.cells (mcl 0 0).toArray 23))
  have hw := wi_yes (n := (i : Int)) (l := 0) (g := 3) (by omega) (by omega)
  have g1 : decide ((mode : Int) < 0) = false := decide_eq_false (by omega)
  have g2 : decide (6 < (mode : Int)) = false := decide_eq_false (by omega)
  clear ic hs hm hR
  go_enter Tryz.func23, Tryz.ntmps23
  go_wp2_with fail
  refine (rcur_ok i _).mono ?_
  rintro e wx ⟨rfl, hq⟩
  obtain rfl := hq.symm
  rw [hw]
  clear hw
  go_wp2_with (refine ldA rfl 41 _ rfl w.heap.size (by rfl) (dcs cc s) _ VD_0.out _ Tryz.underlying41 rfl infoD ?_)
  clear g1 g2
  refine (form_yes cc s _ IC.out HS.out).mono ?_
  rintro e w1 ⟨rfl, b1⟩
  have VD_1 := (show Hid _ from VD_0.out.step b1)
  have VR_1 := (show Hid _ from VR_0.out.step b1)
  have BB_1 := (show Hid _ from BB_0.out.trans (b1.mono BB_0.out.size))
  clear b1 VD_0 VR_0 BB_0
  go_upto_region 5 with fail
  refine wp_region_noPanic ?_
  refine wp_region_held_drew (S := fun w' => VA w' w.heap.size (dcs cc s) 41 ∧ True) (by kernel_rfl) ⟨VD_1.out.drew, True.intro⟩ (fun hHeld => ?_)
  refine takeD 0 27 (.agg #[.int .i64 (dhi cc), .int .u64 (dlo cc), .int .i64 s]) (by exact rfl) rfl (by kernel_rfl) (by kernel_rfl) (by kernel_rfl) (fun _ _ _ h => h) (Or.inl ⟨by rfl, ?_⟩) (by assumption) ?_
  · intro wq hS
    have h0 := hS.1.cell 0 (v := .int .i64 (dhi cc)) rfl
    have h1 := hS.1.cell 1 (v := .int .u64 (dlo cc)) rfl
    have h2 := hS.1.cell 2 (v := .int .i64 s) rfl
    go_simp
  try simp only [Act.put, List.setIfInBounds_toArray, List.set_cons_zero, List.set_cons_succ]
  refine takeD 2 29 (.int .i64 (i : Int)) (by exact rfl) rfl (by kernel_rfl) (by kernel_rfl) (by kernel_rfl) (fun _ _ _ h => h) (Or.inl ⟨by rfl, ?_⟩) (by assumption) ?_
  · intro wq hS
    go_simp
  try simp only [Act.put, List.setIfInBounds_toArray, List.set_cons_zero, List.set_cons_succ]
  refine takeD 7 34 (.pointer (some ⟨w.heap.size, 2, none⟩)) (by exact rfl) rfl (by kernel_rfl) (by kernel_rfl) (by kernel_rfl) (fun _ _ _ h => h) (Or.inl ⟨by rfl, ?_⟩) (by assumption) ?_
  · intro wq hS
    go_simp
  try simp only [Act.put, List.setIfInBounds_toArray, List.set_cons_zero, List.set_cons_succ]
  refine takeD 8 35 (.int .i64 (s : Int)) (by exact rfl) rfl (by kernel_rfl) (by kernel_rfl) (by kernel_rfl) (fun _ _ _ h => h) (Or.inl ⟨by rfl, ?_⟩) (by assumption) ?_
  · intro wq hS
    have h2 := hS.1.cell 2 (v := .int .i64 s) rfl
    go_simp
  try simp only [Act.put, List.setIfInBounds_toArray, List.set_cons_zero, List.set_cons_succ]
  refine takeD 10 37 (.int .i64 (mode : Int)) (by exact rfl) rfl (by kernel_rfl) (by kernel_rfl) (by kernel_rfl) (fun _ _ _ h => h) (Or.inl ⟨by rfl, ?_⟩) (by assumption) ?_
  · intro wq hS
    go_simp
  try simp only [Act.put, List.setIfInBounds_toArray, List.set_cons_zero, List.set_cons_succ]
  clear hHeld
  have VD_z := (show Hid _ from VD_1.out.drew)
  have VR_z := (show Hid _ from VR_1.out.drew)
  have BB_z := (show Hid _ from BB_1.out.drew)
  clear VD_1 VR_1 BB_1
  generalize w1.drew = wz at *
  refine wpAnyH_ready (rs := [1, 12]) (by kernel_rfl) (by simp) ?_
  refine AllReadyH.cons (by exact rfl) (fun K hK => ?_) (AllReadyH.cons (by exact rfl) (fun K hK => ?_) AllReadyH.nil)
  · go_simp
    refine (coef_ok cc s _ IC.out).mono ?_
    rintro e wc1 ⟨⟨v1, rfl, ic1⟩, bc1⟩
    have VD_c1 := (show Hid _ from VD_z.out.step bc1)
    have VR_c1 := (show Hid _ from VR_z.out.step bc1)
    have BB_c1 := (show Hid _ from BB_z.out.trans (bc1.mono BB_z.out.size))
    have J1_c1 := (show Hid _ from ic1)
    clear VD_z VR_z BB_z
    clear bc1 ic1
    go_wp2_with fail
    refine hK.out _ _ ⟨VD_c1.out, True.intro⟩ (fun hHeld => ?_)
    try simp only [Act.put, List.setIfInBounds_toArray, List.set_cons_zero, List.set_cons_succ]
    clear hK K
    clear hHeld
    refine wpAnyH_ready (rs := [3, 12]) (by kernel_rfl) (by simp) ?_
    refine AllReadyH.cons (by exact rfl) (fun K hK => ?_) (AllReadyH.cons (by exact rfl) (fun K hK => ?_) AllReadyH.nil)
    · go_simp
      refine (rdigits_ok i _ hi).mono ?_
      rintro e wx ⟨rfl, hq⟩
      obtain rfl := hq.symm
      go_wp2_with fail
      refine hK.out _ _ ⟨VD_c1.out, True.intro⟩ (fun hHeld => ?_)
      try simp only [Act.put, List.setIfInBounds_toArray, List.set_cons_zero, List.set_cons_succ]
      clear hK K hHeld
      refine wpAnyH_ready (rs := [4, 12]) (by kernel_rfl) (by simp) ?_
      refine AllReadyH.cons (by exact rfl) (fun K hK => ?_) (AllReadyH.cons (by exact rfl) (fun K hK => ?_) AllReadyH.nil)
      · go_simp
        refine (ten_ok (cdg i) _ (by have := cdg_le i; omega)).mono ?_
        rintro e wc5 ⟨⟨r4, rfl, ic5⟩, bc5⟩
        have VD_c5 := (show Hid _ from VD_c1.out.step bc5)
        have VR_c5 := (show Hid _ from VR_c1.out.step bc5)
        have J1_c5 := (show Hid _ from J1_c1.out.step bc5)
        have BB_c5 := (show Hid _ from BB_c1.out.trans (bc5.mono BB_c1.out.size))
        have N4_c5 := (show Hid _ from ic5)
        clear VD_c1 VR_c1 J1_c1 BB_c1
        clear bc5 ic5
        obtain ⟨a4, n4, k4, rfl⟩ := N4_c5.out.form
        go_wp2_with fail
        refine hK.out _ _ ⟨VD_c5.out, True.intro⟩ (fun hHeld => ?_)
        try simp only [Act.put, List.setIfInBounds_toArray, List.set_cons_zero, List.set_cons_succ]
        clear hK K
        refine takeD 5 32 (.agg #[.bool false, .slice a4 n4 k4]) (by exact rfl) rfl (by kernel_rfl) (by kernel_rfl) (by kernel_rfl) (fun _ _ _ h => h) (Or.inl ⟨by rfl, ?_⟩) (by assumption) ?_
        · intro wq hS
          go_simp
        try simp only [Act.put, List.setIfInBounds_toArray, List.set_cons_zero, List.set_cons_succ]
        clear hHeld
        refine wpAnyH_ready (rs := [6, 12]) (by kernel_rfl) (by simp) ?_
        refine AllReadyH.cons (by exact rfl) (fun K hK => ?_) (AllReadyH.cons (by exact rfl) (fun K hK => ?_) AllReadyH.nil)
        · go_simp
          refine (prod_in v1 _ cc (10 ^ cdg i) _ J1_c5.out (ten_in N4_c5.out) (mi_inr IC.out) (by have := mi_ten (c := 1) ⟨by decide, by decide⟩ (cdg_le i); rw [Int.one_mul] at this; exact this)).mono ?_
          rintro e wc7 ⟨⟨v6, rfl, ic7⟩, bc7⟩
          have VD_c7 := (show Hid _ from VD_c5.out.step bc7)
          have VR_c7 := (show Hid _ from VR_c5.out.step bc7)
          have J1_c7 := (show Hid _ from J1_c5.out.step bc7)
          have N4_c7 := (show Hid _ from N4_c5.out.step bc7)
          have BB_c7 := (show Hid _ from BB_c5.out.trans (bc7.mono BB_c5.out.size))
          have J6_c7 := (show Hid _ from ic7)
          clear VD_c5 VR_c5 J1_c5 N4_c5 BB_c5
          clear bc7 ic7
          go_wp2_with fail
          refine hK.out _ _ ⟨VD_c7.out, True.intro⟩ (fun hHeld => ?_)
          try simp only [Act.put, List.setIfInBounds_toArray, List.set_cons_zero, List.set_cons_succ]
          clear hK K
          clear hHeld
          refine wpAnyH_ready (rs := [9, 12]) (by kernel_rfl) (by simp) ?_
          refine AllReadyH.cons (by exact rfl) (fun K hK => ?_) (AllReadyH.cons (by exact rfl) (fun K hK => ?_) AllReadyH.nil)
          · go_simp
            refine (ten_ok s _ (by have := HS.out; omega)).mono ?_
            rintro e wc9 ⟨⟨r9, rfl, ic9⟩, bc9⟩
            have VD_c9 := (show Hid _ from VD_c7.out.step bc9)
            have VR_c9 := (show Hid _ from VR_c7.out.step bc9)
            have J1_c9 := (show Hid _ from J1_c7.out.step bc9)
            have N4_c9 := (show Hid _ from N4_c7.out.step bc9)
            have J6_c9 := (show Hid _ from J6_c7.out.step bc9)
            have BB_c9 := (show Hid _ from BB_c7.out.trans (bc9.mono BB_c7.out.size))
            have N9_c9 := (show Hid _ from ic9)
            clear VD_c7 VR_c7 J1_c7 N4_c7 J6_c7 BB_c7
            clear bc9 ic9
            obtain ⟨a9, n9, k9, rfl⟩ := N9_c9.out.form
            go_wp2_with fail
            refine hK.out _ _ ⟨VD_c9.out, True.intro⟩ (fun hHeld => ?_)
            try simp only [Act.put, List.setIfInBounds_toArray, List.set_cons_zero, List.set_cons_succ]
            clear hK K
            clear hHeld
            refine wpAnyH_ready (rs := [11, 12]) (by kernel_rfl) (by simp) ?_
            refine AllReadyH.cons (by exact rfl) (fun K hK => ?_) (AllReadyH.cons (by exact rfl) (fun K hK => ?_) AllReadyH.nil)
            · go_simp
              refine (rounded_in v6 _ (cc * 10 ^ cdg i) (10 ^ s) mode _ J6_c9.out N9_c9.out (mi_ten IC.out (cdg_le i)) (ten_md s (by have := HS.out; omega)) (Nat.pow_pos (by decide)) HM.out).mono ?_
              rintro e wc11 ⟨⟨vv, rfl, ic11⟩, bc11⟩
              have VD_c11 := (show Hid _ from VD_c9.out.step bc11)
              have VR_c11 := (show Hid _ from VR_c9.out.step bc11)
              have J1_c11 := (show Hid _ from J1_c9.out.step bc11)
              have N4_c11 := (show Hid _ from N4_c9.out.step bc11)
              have J6_c11 := (show Hid _ from J6_c9.out.step bc11)
              have N9_c11 := (show Hid _ from N9_c9.out.step bc11)
              have BB_c11 := (show Hid _ from BB_c9.out.trans (bc11.mono BB_c9.out.size))
              rw [HRV.out] at ic11
              have JJ_c11 := (show Hid _ from ic11)
              clear VD_c9 VR_c9 J1_c9 N4_c9 J6_c9 N9_c9 BB_c9
              clear bc11 ic11
              go_wp2_with fail
              refine hK.out _ _ ⟨VD_c11.out, True.intro⟩ (fun hHeld => ?_)
              try simp only [Act.put, List.setIfInBounds_toArray, List.set_cons_zero, List.set_cons_succ]
              clear hK K
              clear hHeld
              refine wpAnyH_ready (rs := [12]) (by kernel_rfl) (by simp) ?_
              refine AllReadyH.cons (by exact rfl) (fun K hK => ?_) AllReadyH.nil
              go_simp
              have VD_c13 := (show Hid _ from VD_c11.out.alloc (.cells ([.bool false, .slice none 0 0] : List Value).toArray 84))
              have VR_c13 := (show Hid _ from VR_c11.out.alloc (.cells ([.bool false, .slice none 0 0] : List Value).toArray 84))
              have J1_c13 := (show Hid _ from J1_c11.out.alloc (.cells ([.bool false, .slice none 0 0] : List Value).toArray 84))
              have N4_c13 := (show Hid _ from N4_c11.out.alloc (.cells ([.bool false, .slice none 0 0] : List Value).toArray 84))
              have J6_c13 := (show Hid _ from J6_c11.out.alloc (.cells ([.bool false, .slice none 0 0] : List Value).toArray 84))
              have N9_c13 := (show Hid _ from N9_c11.out.alloc (.cells ([.bool false, .slice none 0 0] : List Value).toArray 84))
              have JJ_c13 := (show Hid _ from JJ_c11.out.alloc (.cells ([.bool false, .slice none 0 0] : List Value).toArray 84))
              have BB_c13 := (show Hid _ from BB_c11.out.alloc BB_c11.out.size (.cells ([.bool false, .slice none 0 0] : List Value).toArray 84))
              have XV_c13 := (show Hid _ from va_new wc11 [.bool false, .slice none 0 0] 84)
              have HAB : Hid (w.heap.size + 1 < wc11.heap.size) := VR_c11.out.lt
              refine hK.out _ _ ⟨VD_c13.out, True.intro⟩ (fun hHeld => ?_)
              try simp only [Act.put, List.setIfInBounds_toArray, List.set_cons_zero, List.set_cons_succ]
              clear hK K hHeld
              clear VD_c11 VR_c11 J1_c11 N4_c11 J6_c11 N9_c11 JJ_c11 BB_c11
              change wpAnyH _ _ _ _ _ _ _ _ (wc11.alloc (.cells ([.bool false, .slice none 0 0] : List Value).toArray 84))
              generalize wc11.alloc (.cells ([.bool false, .slice none 0 0] : List Value).toArray 84) = wc13 at *
              generalize wc11.heap.size = ab at *
              obtain ⟨m5, a5, n5, k5, rfl, _⟩ := JJ_c13.out.form
              refine wpAnyH_ready (rs := [13]) (by kernel_rfl) (by simp) ?_
              refine AllReadyH.cons (by exact rfl) (fun K hK => ?_) AllReadyH.nil
              refine stAn (by rfl) (by rfl) 84 _ _ (by rfl) ab (by rfl) [.bool false, .slice none 0 0] [.bool m5, .slice a5 n5 k5] (by rfl) 84 XV_c13.out infoW rfl (il_one _ _ _ _) ?_
              intro w9 v9 u9
              have VD_9 := (show Hid _ from VD_c13.out.upd u9 (by have := HAB.out; omega))
              refine hK.out _ _ ⟨VD_9.out, True.intro⟩ (fun hHeld => ?_)
              clear hK K hHeld
              refine wpAnyH_done (by kernel_rfl) ?_ _
              refine NoPanic.normal ?_
              have XV_9 := (show Hid _ from v9)
              have JJ_9 := (show Hid _ from JJ_c13.out.upd u9 XV_c13.out (by decide))
              have VR_9 := (show Hid _ from VR_c13.out.upd u9 (by have := HAB.out; omega))
              have BB_9 := (show Hid _ from u9.bel BB_c13.out (by have := HAB.out; omega))
              clear v9 u9 VD_9
              clear VD_c13 VR_c13 J1_c13 N4_c13 J6_c13 N9_c13 JJ_c13 XV_c13 BB_c13
              go_wp2_with (refine ldA rfl 84 _ rfl ab (by rfl) [.bool m5, .slice a5 n5 k5] _ XV_9.out _ Tryz.underlying84 rfl infoW ?_)
              refine (small_yes _ R _ JJ_9.out (by have := HR0.out; omega) (by have := HR0.out; omega)).mono ?_
              rintro e wb ⟨rfl, bb⟩
              have VRX := (show Hid _ from VR_9.out.step bb)
              have BBX := (show Hid _ from BB_9.out.trans (bb.mono BB_9.out.size))
              clear bb VR_9 BB_9 JJ_9 XV_9
              go_wp2_with fail
              refine (ramount_ok R _).mono ?_
              rintro e wx ⟨rfl, hq⟩
              obtain rfl := hq.symm
              rw [HWI.out]
              go_wp2_with (refine stA rfl 23 _ _ rfl (w.heap.size + 1) (by rfl) (mcl 0 0) (mcl 0 0) (by rfl) 23 VRX.out infoM rfl (mcl_one _ _) ?_; intro wf vf uf)
              have hld := run_loadVar_row (P := Tryz.prog) wf (w.heap.size + 1) 23 23 _ (0, 0) _ vf.blk Tryz.underlying23 rfl infoM
              exact bodyPost_ret (v := .tuple #[.agg (mcl 0 0).toArray, .int .i64 4]) (by simp [results, Tryz.results23, asAddr, hld]) rfl ⟨rfl, uf.bel BBX.out (by omega)⟩
            · go_simp
              have VD_c12 := (show Hid _ from VD_c9.out.alloc (.cells ([.bool false, .slice none 0 0] : List Value).toArray 84))
              have VR_c12 := (show Hid _ from VR_c9.out.alloc (.cells ([.bool false, .slice none 0 0] : List Value).toArray 84))
              have J1_c12 := (show Hid _ from J1_c9.out.alloc (.cells ([.bool false, .slice none 0 0] : List Value).toArray 84))
              have N4_c12 := (show Hid _ from N4_c9.out.alloc (.cells ([.bool false, .slice none 0 0] : List Value).toArray 84))
              have J6_c12 := (show Hid _ from J6_c9.out.alloc (.cells ([.bool false, .slice none 0 0] : List Value).toArray 84))
              have N9_c12 := (show Hid _ from N9_c9.out.alloc (.cells ([.bool false, .slice none 0 0] : List Value).toArray 84))
              have BB_c12 := (show Hid _ from BB_c9.out.alloc BB_c9.out.size (.cells ([.bool false, .slice none 0 0] : List Value).toArray 84))
              have XV_c12 := (show Hid _ from va_new wc9 [.bool false, .slice none 0 0] 84)
              have HAB : Hid (w.heap.size + 1 < wc9.heap.size) := VR_c9.out.lt
              refine hK.out _ _ ⟨VD_c12.out, True.intro⟩ (fun hHeld => ?_)
              try simp only [Act.put, List.setIfInBounds_toArray, List.set_cons_zero, List.set_cons_succ]
              clear hK K hHeld
              clear VD_c9 VR_c9 J1_c9 N4_c9 J6_c9 N9_c9 BB_c9
              change wpAnyH _ _ _ _ _ _ _ _ (wc9.alloc (.cells ([.bool false, .slice none 0 0] : List Value).toArray 84))
              generalize wc9.alloc (.cells ([.bool false, .slice none 0 0] : List Value).toArray 84) = wc12 at *
              generalize wc9.heap.size = ab at *
              refine wpAnyH_ready (rs := [11]) (by kernel_rfl) (by simp) ?_
              refine AllReadyH.cons (by exact rfl) (fun K hK => ?_) AllReadyH.nil
              go_simp
              refine (rounded_in v6 _ (cc * 10 ^ cdg i) (10 ^ s) mode _ J6_c12.out N9_c12.out (mi_ten IC.out (cdg_le i)) (ten_md s (by have := HS.out; omega)) (Nat.pow_pos (by decide)) HM.out).mono ?_
              rintro e wc14 ⟨⟨vv, rfl, ic14⟩, bc14⟩
              have VD_c14 := (show Hid _ from VD_c12.out.step bc14)
              have VR_c14 := (show Hid _ from VR_c12.out.step bc14)
              have J1_c14 := (show Hid _ from J1_c12.out.step bc14)
              have N4_c14 := (show Hid _ from N4_c12.out.step bc14)
              have J6_c14 := (show Hid _ from J6_c12.out.step bc14)
              have N9_c14 := (show Hid _ from N9_c12.out.step bc14)
              have XV_c14 := (show Hid _ from XV_c12.out.step bc14)
              have BB_c14 := (show Hid _ from BB_c12.out.trans (bc14.mono BB_c12.out.size))
              rw [HRV.out] at ic14
              have JJ_c14 := (show Hid _ from ic14)
              clear VD_c12 VR_c12 J1_c12 N4_c12 J6_c12 N9_c12 XV_c12 BB_c12
              clear bc14 ic14
              go_wp2_with fail
              refine hK.out _ _ ⟨VD_c14.out, True.intro⟩ (fun hHeld => ?_)
              try simp only [Act.put, List.setIfInBounds_toArray, List.set_cons_zero, List.set_cons_succ]
              clear hK K
              clear hHeld
              obtain ⟨m5, a5, n5, k5, rfl, _⟩ := JJ_c14.out.form
              refine wpAnyH_ready (rs := [13]) (by kernel_rfl) (by simp) ?_
              refine AllReadyH.cons (by exact rfl) (fun K hK => ?_) AllReadyH.nil
              refine stAn (by rfl) (by rfl) 84 _ _ (by rfl) ab (by rfl) [.bool false, .slice none 0 0] [.bool m5, .slice a5 n5 k5] (by rfl) 84 XV_c14.out infoW rfl (il_one _ _ _ _) ?_
              intro w9 v9 u9
              have VD_9 := (show Hid _ from VD_c14.out.upd u9 (by have := HAB.out; omega))
              refine hK.out _ _ ⟨VD_9.out, True.intro⟩ (fun hHeld => ?_)
              clear hK K hHeld
              refine wpAnyH_done (by kernel_rfl) ?_ _
              refine NoPanic.normal ?_
              have XV_9 := (show Hid _ from v9)
              have JJ_9 := (show Hid _ from JJ_c14.out.upd u9 XV_c14.out (by decide))
              have VR_9 := (show Hid _ from VR_c14.out.upd u9 (by have := HAB.out; omega))
              have BB_9 := (show Hid _ from u9.bel BB_c14.out (by have := HAB.out; omega))
              clear v9 u9 VD_9
              clear VD_c14 VR_c14 J1_c14 N4_c14 J6_c14 N9_c14 XV_c14 JJ_c14 BB_c14
              go_wp2_with (refine ldA rfl 84 _ rfl ab (by rfl) [.bool m5, .slice a5 n5 k5] _ XV_9.out _ Tryz.underlying84 rfl infoW ?_)
              refine (small_yes _ R _ JJ_9.out (by have := HR0.out; omega) (by have := HR0.out; omega)).mono ?_
              rintro e wb ⟨rfl, bb⟩
              have VRX := (show Hid _ from VR_9.out.step bb)
              have BBX := (show Hid _ from BB_9.out.trans (bb.mono BB_9.out.size))
              clear bb VR_9 BB_9 JJ_9 XV_9
              go_wp2_with fail
              refine (ramount_ok R _).mono ?_
              rintro e wx ⟨rfl, hq⟩
              obtain rfl := hq.symm
              rw [HWI.out]
              go_wp2_with (refine stA rfl 23 _ _ rfl (w.heap.size + 1) (by rfl) (mcl 0 0) (mcl 0 0) (by rfl) 23 VRX.out infoM rfl (mcl_one _ _) ?_; intro wf vf uf)
              have hld := run_loadVar_row (P := Tryz.prog) wf (w.heap.size + 1) 23 23 _ (0, 0) _ vf.blk Tryz.underlying23 rfl infoM
              exact bodyPost_ret (v := .tuple #[.agg (mcl 0 0).toArray, .int .i64 4]) (by simp [results, Tryz.results23, asAddr, hld]) rfl ⟨rfl, uf.bel BBX.out (by omega)⟩
          · go_simp
            have VD_c10 := (show Hid _ from VD_c7.out.alloc (.cells ([.bool false, .slice none 0 0] : List Value).toArray 84))
            have VR_c10 := (show Hid _ from VR_c7.out.alloc (.cells ([.bool false, .slice none 0 0] : List Value).toArray 84))
            have J1_c10 := (show Hid _ from J1_c7.out.alloc (.cells ([.bool false, .slice none 0 0] : List Value).toArray 84))
            have N4_c10 := (show Hid _ from N4_c7.out.alloc (.cells ([.bool false, .slice none 0 0] : List Value).toArray 84))
            have J6_c10 := (show Hid _ from J6_c7.out.alloc (.cells ([.bool false, .slice none 0 0] : List Value).toArray 84))
            have BB_c10 := (show Hid _ from BB_c7.out.alloc BB_c7.out.size (.cells ([.bool false, .slice none 0 0] : List Value).toArray 84))
            have XV_c10 := (show Hid _ from va_new wc7 [.bool false, .slice none 0 0] 84)
            have HAB : Hid (w.heap.size + 1 < wc7.heap.size) := VR_c7.out.lt
            refine hK.out _ _ ⟨VD_c10.out, True.intro⟩ (fun hHeld => ?_)
            try simp only [Act.put, List.setIfInBounds_toArray, List.set_cons_zero, List.set_cons_succ]
            clear hK K hHeld
            clear VD_c7 VR_c7 J1_c7 N4_c7 J6_c7 BB_c7
            change wpAnyH _ _ _ _ _ _ _ _ (wc7.alloc (.cells ([.bool false, .slice none 0 0] : List Value).toArray 84))
            generalize wc7.alloc (.cells ([.bool false, .slice none 0 0] : List Value).toArray 84) = wc10 at *
            generalize wc7.heap.size = ab at *
            refine wpAnyH_ready (rs := [9]) (by kernel_rfl) (by simp) ?_
            refine AllReadyH.cons (by exact rfl) (fun K hK => ?_) AllReadyH.nil
            go_simp
            refine (ten_ok s _ (by have := HS.out; omega)).mono ?_
            rintro e wc15 ⟨⟨r9, rfl, ic15⟩, bc15⟩
            have VD_c15 := (show Hid _ from VD_c10.out.step bc15)
            have VR_c15 := (show Hid _ from VR_c10.out.step bc15)
            have J1_c15 := (show Hid _ from J1_c10.out.step bc15)
            have N4_c15 := (show Hid _ from N4_c10.out.step bc15)
            have J6_c15 := (show Hid _ from J6_c10.out.step bc15)
            have XV_c15 := (show Hid _ from XV_c10.out.step bc15)
            have BB_c15 := (show Hid _ from BB_c10.out.trans (bc15.mono BB_c10.out.size))
            have N9_c15 := (show Hid _ from ic15)
            clear VD_c10 VR_c10 J1_c10 N4_c10 J6_c10 XV_c10 BB_c10
            clear bc15 ic15
            obtain ⟨a9, n9, k9, rfl⟩ := N9_c15.out.form
            go_wp2_with fail
            refine hK.out _ _ ⟨VD_c15.out, True.intro⟩ (fun hHeld => ?_)
            try simp only [Act.put, List.setIfInBounds_toArray, List.set_cons_zero, List.set_cons_succ]
            clear hK K
            clear hHeld
            refine wpAnyH_ready (rs := [11]) (by kernel_rfl) (by simp) ?_
            refine AllReadyH.cons (by exact rfl) (fun K hK => ?_) AllReadyH.nil
            go_simp
            refine (rounded_in v6 _ (cc * 10 ^ cdg i) (10 ^ s) mode _ J6_c15.out N9_c15.out (mi_ten IC.out (cdg_le i)) (ten_md s (by have := HS.out; omega)) (Nat.pow_pos (by decide)) HM.out).mono ?_
            rintro e wc16 ⟨⟨vv, rfl, ic16⟩, bc16⟩
            have VD_c16 := (show Hid _ from VD_c15.out.step bc16)
            have VR_c16 := (show Hid _ from VR_c15.out.step bc16)
            have J1_c16 := (show Hid _ from J1_c15.out.step bc16)
            have N4_c16 := (show Hid _ from N4_c15.out.step bc16)
            have J6_c16 := (show Hid _ from J6_c15.out.step bc16)
            have XV_c16 := (show Hid _ from XV_c15.out.step bc16)
            have N9_c16 := (show Hid _ from N9_c15.out.step bc16)
            have BB_c16 := (show Hid _ from BB_c15.out.trans (bc16.mono BB_c15.out.size))
            rw [HRV.out] at ic16
            have JJ_c16 := (show Hid _ from ic16)
            clear VD_c15 VR_c15 J1_c15 N4_c15 J6_c15 XV_c15 N9_c15 BB_c15
            clear bc16 ic16
            go_wp2_with fail
            refine hK.out _ _ ⟨VD_c16.out, True.intro⟩ (fun hHeld => ?_)
            try simp only [Act.put, List.setIfInBounds_toArray, List.set_cons_zero, List.set_cons_succ]
            clear hK K
            clear hHeld
            obtain ⟨m5, a5, n5, k5, rfl, _⟩ := JJ_c16.out.form
            refine wpAnyH_ready (rs := [13]) (by kernel_rfl) (by simp) ?_
            refine AllReadyH.cons (by exact rfl) (fun K hK => ?_) AllReadyH.nil
            refine stAn (by rfl) (by rfl) 84 _ _ (by rfl) ab (by rfl) [.bool false, .slice none 0 0] [.bool m5, .slice a5 n5 k5] (by rfl) 84 XV_c16.out infoW rfl (il_one _ _ _ _) ?_
            intro w9 v9 u9
            have VD_9 := (show Hid _ from VD_c16.out.upd u9 (by have := HAB.out; omega))
            refine hK.out _ _ ⟨VD_9.out, True.intro⟩ (fun hHeld => ?_)
            clear hK K hHeld
            refine wpAnyH_done (by kernel_rfl) ?_ _
            refine NoPanic.normal ?_
            have XV_9 := (show Hid _ from v9)
            have JJ_9 := (show Hid _ from JJ_c16.out.upd u9 XV_c16.out (by decide))
            have VR_9 := (show Hid _ from VR_c16.out.upd u9 (by have := HAB.out; omega))
            have BB_9 := (show Hid _ from u9.bel BB_c16.out (by have := HAB.out; omega))
            clear v9 u9 VD_9
            clear VD_c16 VR_c16 J1_c16 N4_c16 J6_c16 XV_c16 N9_c16 JJ_c16 BB_c16
            go_wp2_with (refine ldA rfl 84 _ rfl ab (by rfl) [.bool m5, .slice a5 n5 k5] _ XV_9.out _ Tryz.underlying84 rfl infoW ?_)
            refine (small_yes _ R _ JJ_9.out (by have := HR0.out; omega) (by have := HR0.out; omega)).mono ?_
            rintro e wb ⟨rfl, bb⟩
            have VRX := (show Hid _ from VR_9.out.step bb)
            have BBX := (show Hid _ from BB_9.out.trans (bb.mono BB_9.out.size))
            clear bb VR_9 BB_9 JJ_9 XV_9
            go_wp2_with fail
            refine (ramount_ok R _).mono ?_
            rintro e wx ⟨rfl, hq⟩
            obtain rfl := hq.symm
            rw [HWI.out]
            go_wp2_with (refine stA rfl 23 _ _ rfl (w.heap.size + 1) (by rfl) (mcl 0 0) (mcl 0 0) (by rfl) 23 VRX.out infoM rfl (mcl_one _ _) ?_; intro wf vf uf)
            have hld := run_loadVar_row (P := Tryz.prog) wf (w.heap.size + 1) 23 23 _ (0, 0) _ vf.blk Tryz.underlying23 rfl infoM
            exact bodyPost_ret (v := .tuple #[.agg (mcl 0 0).toArray, .int .i64 4]) (by simp [results, Tryz.results23, asAddr, hld]) rfl ⟨rfl, uf.bel BBX.out (by omega)⟩
        · go_simp
          have VD_c8 := (show Hid _ from VD_c5.out.alloc (.cells ([.bool false, .slice none 0 0] : List Value).toArray 84))
          have VR_c8 := (show Hid _ from VR_c5.out.alloc (.cells ([.bool false, .slice none 0 0] : List Value).toArray 84))
          have J1_c8 := (show Hid _ from J1_c5.out.alloc (.cells ([.bool false, .slice none 0 0] : List Value).toArray 84))
          have N4_c8 := (show Hid _ from N4_c5.out.alloc (.cells ([.bool false, .slice none 0 0] : List Value).toArray 84))
          have BB_c8 := (show Hid _ from BB_c5.out.alloc BB_c5.out.size (.cells ([.bool false, .slice none 0 0] : List Value).toArray 84))
          have XV_c8 := (show Hid _ from va_new wc5 [.bool false, .slice none 0 0] 84)
          have HAB : Hid (w.heap.size + 1 < wc5.heap.size) := VR_c5.out.lt
          refine hK.out _ _ ⟨VD_c8.out, True.intro⟩ (fun hHeld => ?_)
          try simp only [Act.put, List.setIfInBounds_toArray, List.set_cons_zero, List.set_cons_succ]
          clear hK K hHeld
          clear VD_c5 VR_c5 J1_c5 N4_c5 BB_c5
          change wpAnyH _ _ _ _ _ _ _ _ (wc5.alloc (.cells ([.bool false, .slice none 0 0] : List Value).toArray 84))
          generalize wc5.alloc (.cells ([.bool false, .slice none 0 0] : List Value).toArray 84) = wc8 at *
          generalize wc5.heap.size = ab at *
          refine wpAnyH_ready (rs := [6]) (by kernel_rfl) (by simp) ?_
          refine AllReadyH.cons (by exact rfl) (fun K hK => ?_) AllReadyH.nil
          go_simp
          refine (prod_in v1 _ cc (10 ^ cdg i) _ J1_c8.out (ten_in N4_c8.out) (mi_inr IC.out) (by have := mi_ten (c := 1) ⟨by decide, by decide⟩ (cdg_le i); rw [Int.one_mul] at this; exact this)).mono ?_
          rintro e wc17 ⟨⟨v6, rfl, ic17⟩, bc17⟩
          have VD_c17 := (show Hid _ from VD_c8.out.step bc17)
          have VR_c17 := (show Hid _ from VR_c8.out.step bc17)
          have J1_c17 := (show Hid _ from J1_c8.out.step bc17)
          have N4_c17 := (show Hid _ from N4_c8.out.step bc17)
          have XV_c17 := (show Hid _ from XV_c8.out.step bc17)
          have BB_c17 := (show Hid _ from BB_c8.out.trans (bc17.mono BB_c8.out.size))
          have J6_c17 := (show Hid _ from ic17)
          clear VD_c8 VR_c8 J1_c8 N4_c8 XV_c8 BB_c8
          clear bc17 ic17
          go_wp2_with fail
          refine hK.out _ _ ⟨VD_c17.out, True.intro⟩ (fun hHeld => ?_)
          try simp only [Act.put, List.setIfInBounds_toArray, List.set_cons_zero, List.set_cons_succ]
          clear hK K
          clear hHeld
          refine wpAnyH_ready (rs := [9]) (by kernel_rfl) (by simp) ?_
          refine AllReadyH.cons (by exact rfl) (fun K hK => ?_) AllReadyH.nil
          go_simp
          refine (ten_ok s _ (by have := HS.out; omega)).mono ?_
          rintro e wc18 ⟨⟨r9, rfl, ic18⟩, bc18⟩
          have VD_c18 := (show Hid _ from VD_c17.out.step bc18)
          have VR_c18 := (show Hid _ from VR_c17.out.step bc18)
          have J1_c18 := (show Hid _ from J1_c17.out.step bc18)
          have N4_c18 := (show Hid _ from N4_c17.out.step bc18)
          have XV_c18 := (show Hid _ from XV_c17.out.step bc18)
          have J6_c18 := (show Hid _ from J6_c17.out.step bc18)
          have BB_c18 := (show Hid _ from BB_c17.out.trans (bc18.mono BB_c17.out.size))
          have N9_c18 := (show Hid _ from ic18)
          clear VD_c17 VR_c17 J1_c17 N4_c17 XV_c17 J6_c17 BB_c17
          clear bc18 ic18
          obtain ⟨a9, n9, k9, rfl⟩ := N9_c18.out.form
          go_wp2_with fail
          refine hK.out _ _ ⟨VD_c18.out, True.intro⟩ (fun hHeld => ?_)
          try simp only [Act.put, List.setIfInBounds_toArray, List.set_cons_zero, List.set_cons_succ]
          clear hK K
          clear hHeld
          refine wpAnyH_ready (rs := [11]) (by kernel_rfl) (by simp) ?_
          refine AllReadyH.cons (by exact rfl) (fun K hK => ?_) AllReadyH.nil
          go_simp
          refine (rounded_in v6 _ (cc * 10 ^ cdg i) (10 ^ s) mode _ J6_c18.out N9_c18.out (mi_ten IC.out (cdg_le i)) (ten_md s (by have := HS.out; omega)) (Nat.pow_pos (by decide)) HM.out).mono ?_
          rintro e wc19 ⟨⟨vv, rfl, ic19⟩, bc19⟩
          have VD_c19 := (show Hid _ from VD_c18.out.step bc19)
          have VR_c19 := (show Hid _ from VR_c18.out.step bc19)
          have J1_c19 := (show Hid _ from J1_c18.out.step bc19)
          have N4_c19 := (show Hid _ from N4_c18.out.step bc19)
          have XV_c19 := (show Hid _ from XV_c18.out.step bc19)
          have J6_c19 := (show Hid _ from J6_c18.out.step bc19)
          have N9_c19 := (show Hid _ from N9_c18.out.step bc19)
          have BB_c19 := (show Hid _ from BB_c18.out.trans (bc19.mono BB_c18.out.size))
          rw [HRV.out] at ic19
          have JJ_c19 := (show Hid _ from ic19)
          clear VD_c18 VR_c18 J1_c18 N4_c18 XV_c18 J6_c18 N9_c18 BB_c18
          clear bc19 ic19
          go_wp2_with fail
          refine hK.out _ _ ⟨VD_c19.out, True.intro⟩ (fun hHeld => ?_)
          try simp only [Act.put, List.setIfInBounds_toArray, List.set_cons_zero, List.set_cons_succ]
          clear hK K
          clear hHeld
          obtain ⟨m5, a5, n5, k5, rfl, _⟩ := JJ_c19.out.form
          refine wpAnyH_ready (rs := [13]) (by kernel_rfl) (by simp) ?_
          refine AllReadyH.cons (by exact rfl) (fun K hK => ?_) AllReadyH.nil
          refine stAn (by rfl) (by rfl) 84 _ _ (by rfl) ab (by rfl) [.bool false, .slice none 0 0] [.bool m5, .slice a5 n5 k5] (by rfl) 84 XV_c19.out infoW rfl (il_one _ _ _ _) ?_
          intro w9 v9 u9
          have VD_9 := (show Hid _ from VD_c19.out.upd u9 (by have := HAB.out; omega))
          refine hK.out _ _ ⟨VD_9.out, True.intro⟩ (fun hHeld => ?_)
          clear hK K hHeld
          refine wpAnyH_done (by kernel_rfl) ?_ _
          refine NoPanic.normal ?_
          have XV_9 := (show Hid _ from v9)
          have JJ_9 := (show Hid _ from JJ_c19.out.upd u9 XV_c19.out (by decide))
          have VR_9 := (show Hid _ from VR_c19.out.upd u9 (by have := HAB.out; omega))
          have BB_9 := (show Hid _ from u9.bel BB_c19.out (by have := HAB.out; omega))
          clear v9 u9 VD_9
          clear VD_c19 VR_c19 J1_c19 N4_c19 XV_c19 J6_c19 N9_c19 JJ_c19 BB_c19
          go_wp2_with (refine ldA rfl 84 _ rfl ab (by rfl) [.bool m5, .slice a5 n5 k5] _ XV_9.out _ Tryz.underlying84 rfl infoW ?_)
          refine (small_yes _ R _ JJ_9.out (by have := HR0.out; omega) (by have := HR0.out; omega)).mono ?_
          rintro e wb ⟨rfl, bb⟩
          have VRX := (show Hid _ from VR_9.out.step bb)
          have BBX := (show Hid _ from BB_9.out.trans (bb.mono BB_9.out.size))
          clear bb VR_9 BB_9 JJ_9 XV_9
          go_wp2_with fail
          refine (ramount_ok R _).mono ?_
          rintro e wx ⟨rfl, hq⟩
          obtain rfl := hq.symm
          rw [HWI.out]
          go_wp2_with (refine stA rfl 23 _ _ rfl (w.heap.size + 1) (by rfl) (mcl 0 0) (mcl 0 0) (by rfl) 23 VRX.out infoM rfl (mcl_one _ _) ?_; intro wf vf uf)
          have hld := run_loadVar_row (P := Tryz.prog) wf (w.heap.size + 1) 23 23 _ (0, 0) _ vf.blk Tryz.underlying23 rfl infoM
          exact bodyPost_ret (v := .tuple #[.agg (mcl 0 0).toArray, .int .i64 4]) (by simp [results, Tryz.results23, asAddr, hld]) rfl ⟨rfl, uf.bel BBX.out (by omega)⟩
      · go_simp
        have VD_c6 := (show Hid _ from VD_c1.out.alloc (.cells ([.bool false, .slice none 0 0] : List Value).toArray 84))
        have VR_c6 := (show Hid _ from VR_c1.out.alloc (.cells ([.bool false, .slice none 0 0] : List Value).toArray 84))
        have J1_c6 := (show Hid _ from J1_c1.out.alloc (.cells ([.bool false, .slice none 0 0] : List Value).toArray 84))
        have BB_c6 := (show Hid _ from BB_c1.out.alloc BB_c1.out.size (.cells ([.bool false, .slice none 0 0] : List Value).toArray 84))
        have XV_c6 := (show Hid _ from va_new wc1 [.bool false, .slice none 0 0] 84)
        have HAB : Hid (w.heap.size + 1 < wc1.heap.size) := VR_c1.out.lt
        refine hK.out _ _ ⟨VD_c6.out, True.intro⟩ (fun hHeld => ?_)
        try simp only [Act.put, List.setIfInBounds_toArray, List.set_cons_zero, List.set_cons_succ]
        clear hK K hHeld
        clear VD_c1 VR_c1 J1_c1 BB_c1
        change wpAnyH _ _ _ _ _ _ _ _ (wc1.alloc (.cells ([.bool false, .slice none 0 0] : List Value).toArray 84))
        generalize wc1.alloc (.cells ([.bool false, .slice none 0 0] : List Value).toArray 84) = wc6 at *
        generalize wc1.heap.size = ab at *
        refine wpAnyH_ready (rs := [4]) (by kernel_rfl) (by simp) ?_
        refine AllReadyH.cons (by exact rfl) (fun K hK => ?_) AllReadyH.nil
        go_simp
        refine (ten_ok (cdg i) _ (by have := cdg_le i; omega)).mono ?_
        rintro e wc20 ⟨⟨r4, rfl, ic20⟩, bc20⟩
        have VD_c20 := (show Hid _ from VD_c6.out.step bc20)
        have VR_c20 := (show Hid _ from VR_c6.out.step bc20)
        have J1_c20 := (show Hid _ from J1_c6.out.step bc20)
        have XV_c20 := (show Hid _ from XV_c6.out.step bc20)
        have BB_c20 := (show Hid _ from BB_c6.out.trans (bc20.mono BB_c6.out.size))
        have N4_c20 := (show Hid _ from ic20)
        clear VD_c6 VR_c6 J1_c6 XV_c6 BB_c6
        clear bc20 ic20
        obtain ⟨a4, n4, k4, rfl⟩ := N4_c20.out.form
        go_wp2_with fail
        refine hK.out _ _ ⟨VD_c20.out, True.intro⟩ (fun hHeld => ?_)
        try simp only [Act.put, List.setIfInBounds_toArray, List.set_cons_zero, List.set_cons_succ]
        clear hK K
        refine takeD 5 32 (.agg #[.bool false, .slice a4 n4 k4]) (by exact rfl) rfl (by kernel_rfl) (by kernel_rfl) (by kernel_rfl) (fun _ _ _ h => h) (Or.inl ⟨by rfl, ?_⟩) (by assumption) ?_
        · intro wq hS
          go_simp
        try simp only [Act.put, List.setIfInBounds_toArray, List.set_cons_zero, List.set_cons_succ]
        clear hHeld
        refine wpAnyH_ready (rs := [6]) (by kernel_rfl) (by simp) ?_
        refine AllReadyH.cons (by exact rfl) (fun K hK => ?_) AllReadyH.nil
        go_simp
        refine (prod_in v1 _ cc (10 ^ cdg i) _ J1_c20.out (ten_in N4_c20.out) (mi_inr IC.out) (by have := mi_ten (c := 1) ⟨by decide, by decide⟩ (cdg_le i); rw [Int.one_mul] at this; exact this)).mono ?_
        rintro e wc21 ⟨⟨v6, rfl, ic21⟩, bc21⟩
        have VD_c21 := (show Hid _ from VD_c20.out.step bc21)
        have VR_c21 := (show Hid _ from VR_c20.out.step bc21)
        have J1_c21 := (show Hid _ from J1_c20.out.step bc21)
        have XV_c21 := (show Hid _ from XV_c20.out.step bc21)
        have N4_c21 := (show Hid _ from N4_c20.out.step bc21)
        have BB_c21 := (show Hid _ from BB_c20.out.trans (bc21.mono BB_c20.out.size))
        have J6_c21 := (show Hid _ from ic21)
        clear VD_c20 VR_c20 J1_c20 XV_c20 N4_c20 BB_c20
        clear bc21 ic21
        go_wp2_with fail
        refine hK.out _ _ ⟨VD_c21.out, True.intro⟩ (fun hHeld => ?_)
        try simp only [Act.put, List.setIfInBounds_toArray, List.set_cons_zero, List.set_cons_succ]
        clear hK K
        clear hHeld
        refine wpAnyH_ready (rs := [9]) (by kernel_rfl) (by simp) ?_
        refine AllReadyH.cons (by exact rfl) (fun K hK => ?_) AllReadyH.nil
        go_simp
        refine (ten_ok s _ (by have := HS.out; omega)).mono ?_
        rintro e wc22 ⟨⟨r9, rfl, ic22⟩, bc22⟩
        have VD_c22 := (show Hid _ from VD_c21.out.step bc22)
        have VR_c22 := (show Hid _ from VR_c21.out.step bc22)
        have J1_c22 := (show Hid _ from J1_c21.out.step bc22)
        have XV_c22 := (show Hid _ from XV_c21.out.step bc22)
        have N4_c22 := (show Hid _ from N4_c21.out.step bc22)
        have J6_c22 := (show Hid _ from J6_c21.out.step bc22)
        have BB_c22 := (show Hid _ from BB_c21.out.trans (bc22.mono BB_c21.out.size))
        have N9_c22 := (show Hid _ from ic22)
        clear VD_c21 VR_c21 J1_c21 XV_c21 N4_c21 J6_c21 BB_c21
        clear bc22 ic22
        obtain ⟨a9, n9, k9, rfl⟩ := N9_c22.out.form
        go_wp2_with fail
        refine hK.out _ _ ⟨VD_c22.out, True.intro⟩ (fun hHeld => ?_)
        try simp only [Act.put, List.setIfInBounds_toArray, List.set_cons_zero, List.set_cons_succ]
        clear hK K
        clear hHeld
        refine wpAnyH_ready (rs := [11]) (by kernel_rfl) (by simp) ?_
        refine AllReadyH.cons (by exact rfl) (fun K hK => ?_) AllReadyH.nil
        go_simp
        refine (rounded_in v6 _ (cc * 10 ^ cdg i) (10 ^ s) mode _ J6_c22.out N9_c22.out (mi_ten IC.out (cdg_le i)) (ten_md s (by have := HS.out; omega)) (Nat.pow_pos (by decide)) HM.out).mono ?_
        rintro e wc23 ⟨⟨vv, rfl, ic23⟩, bc23⟩
        have VD_c23 := (show Hid _ from VD_c22.out.step bc23)
        have VR_c23 := (show Hid _ from VR_c22.out.step bc23)
        have J1_c23 := (show Hid _ from J1_c22.out.step bc23)
        have XV_c23 := (show Hid _ from XV_c22.out.step bc23)
        have N4_c23 := (show Hid _ from N4_c22.out.step bc23)
        have J6_c23 := (show Hid _ from J6_c22.out.step bc23)
        have N9_c23 := (show Hid _ from N9_c22.out.step bc23)
        have BB_c23 := (show Hid _ from BB_c22.out.trans (bc23.mono BB_c22.out.size))
        rw [HRV.out] at ic23
        have JJ_c23 := (show Hid _ from ic23)
        clear VD_c22 VR_c22 J1_c22 XV_c22 N4_c22 J6_c22 N9_c22 BB_c22
        clear bc23 ic23
        go_wp2_with fail
        refine hK.out _ _ ⟨VD_c23.out, True.intro⟩ (fun hHeld => ?_)
        try simp only [Act.put, List.setIfInBounds_toArray, List.set_cons_zero, List.set_cons_succ]
        clear hK K
        clear hHeld
        obtain ⟨m5, a5, n5, k5, rfl, _⟩ := JJ_c23.out.form
        refine wpAnyH_ready (rs := [13]) (by kernel_rfl) (by simp) ?_
        refine AllReadyH.cons (by exact rfl) (fun K hK => ?_) AllReadyH.nil
        refine stAn (by rfl) (by rfl) 84 _ _ (by rfl) ab (by rfl) [.bool false, .slice none 0 0] [.bool m5, .slice a5 n5 k5] (by rfl) 84 XV_c23.out infoW rfl (il_one _ _ _ _) ?_
        intro w9 v9 u9
        have VD_9 := (show Hid _ from VD_c23.out.upd u9 (by have := HAB.out; omega))
        refine hK.out _ _ ⟨VD_9.out, True.intro⟩ (fun hHeld => ?_)
        clear hK K hHeld
        refine wpAnyH_done (by kernel_rfl) ?_ _
        refine NoPanic.normal ?_
        have XV_9 := (show Hid _ from v9)
        have JJ_9 := (show Hid _ from JJ_c23.out.upd u9 XV_c23.out (by decide))
        have VR_9 := (show Hid _ from VR_c23.out.upd u9 (by have := HAB.out; omega))
        have BB_9 := (show Hid _ from u9.bel BB_c23.out (by have := HAB.out; omega))
        clear v9 u9 VD_9
        clear VD_c23 VR_c23 J1_c23 XV_c23 N4_c23 J6_c23 N9_c23 JJ_c23 BB_c23
        go_wp2_with (refine ldA rfl 84 _ rfl ab (by rfl) [.bool m5, .slice a5 n5 k5] _ XV_9.out _ Tryz.underlying84 rfl infoW ?_)
        refine (small_yes _ R _ JJ_9.out (by have := HR0.out; omega) (by have := HR0.out; omega)).mono ?_
        rintro e wb ⟨rfl, bb⟩
        have VRX := (show Hid _ from VR_9.out.step bb)
        have BBX := (show Hid _ from BB_9.out.trans (bb.mono BB_9.out.size))
        clear bb VR_9 BB_9 JJ_9 XV_9
        go_wp2_with fail
        refine (ramount_ok R _).mono ?_
        rintro e wx ⟨rfl, hq⟩
        obtain rfl := hq.symm
        rw [HWI.out]
        go_wp2_with (refine stA rfl 23 _ _ rfl (w.heap.size + 1) (by rfl) (mcl 0 0) (mcl 0 0) (by rfl) 23 VRX.out infoM rfl (mcl_one _ _) ?_; intro wf vf uf)
        have hld := run_loadVar_row (P := Tryz.prog) wf (w.heap.size + 1) 23 23 _ (0, 0) _ vf.blk Tryz.underlying23 rfl infoM
        exact bodyPost_ret (v := .tuple #[.agg (mcl 0 0).toArray, .int .i64 4]) (by simp [results, Tryz.results23, asAddr, hld]) rfl ⟨rfl, uf.bel BBX.out (by omega)⟩
    · go_simp
      have VD_c4 := (show Hid _ from VD_c1.out.alloc (.cells ([.bool false, .slice none 0 0] : List Value).toArray 84))
      have VR_c4 := (show Hid _ from VR_c1.out.alloc (.cells ([.bool false, .slice none 0 0] : List Value).toArray 84))
      have J1_c4 := (show Hid _ from J1_c1.out.alloc (.cells ([.bool false, .slice none 0 0] : List Value).toArray 84))
      have BB_c4 := (show Hid _ from BB_c1.out.alloc BB_c1.out.size (.cells ([.bool false, .slice none 0 0] : List Value).toArray 84))
      have XV_c4 := (show Hid _ from va_new wc1 [.bool false, .slice none 0 0] 84)
      have HAB : Hid (w.heap.size + 1 < wc1.heap.size) := VR_c1.out.lt
      refine hK.out _ _ ⟨VD_c4.out, True.intro⟩ (fun hHeld => ?_)
      try simp only [Act.put, List.setIfInBounds_toArray, List.set_cons_zero, List.set_cons_succ]
      clear hK K hHeld
      clear VD_c1 VR_c1 J1_c1 BB_c1
      change wpAnyH _ _ _ _ _ _ _ _ (wc1.alloc (.cells ([.bool false, .slice none 0 0] : List Value).toArray 84))
      generalize wc1.alloc (.cells ([.bool false, .slice none 0 0] : List Value).toArray 84) = wc4 at *
      generalize wc1.heap.size = ab at *
      refine wpAnyH_ready (rs := [3]) (by kernel_rfl) (by simp) ?_
      refine AllReadyH.cons (by exact rfl) (fun K hK => ?_) AllReadyH.nil
      go_simp
      refine (rdigits_ok i _ hi).mono ?_
      rintro e wx ⟨rfl, hq⟩
      obtain rfl := hq.symm
      go_wp2_with fail
      refine hK.out _ _ ⟨VD_c4.out, True.intro⟩ (fun hHeld => ?_)
      try simp only [Act.put, List.setIfInBounds_toArray, List.set_cons_zero, List.set_cons_succ]
      clear hK K hHeld
      refine wpAnyH_ready (rs := [4]) (by kernel_rfl) (by simp) ?_
      refine AllReadyH.cons (by exact rfl) (fun K hK => ?_) AllReadyH.nil
      go_simp
      refine (ten_ok (cdg i) _ (by have := cdg_le i; omega)).mono ?_
      rintro e wc25 ⟨⟨r4, rfl, ic25⟩, bc25⟩
      have VD_c25 := (show Hid _ from VD_c4.out.step bc25)
      have VR_c25 := (show Hid _ from VR_c4.out.step bc25)
      have J1_c25 := (show Hid _ from J1_c4.out.step bc25)
      have XV_c25 := (show Hid _ from XV_c4.out.step bc25)
      have BB_c25 := (show Hid _ from BB_c4.out.trans (bc25.mono BB_c4.out.size))
      have N4_c25 := (show Hid _ from ic25)
      clear VD_c4 VR_c4 J1_c4 XV_c4 BB_c4
      clear bc25 ic25
      obtain ⟨a4, n4, k4, rfl⟩ := N4_c25.out.form
      go_wp2_with fail
      refine hK.out _ _ ⟨VD_c25.out, True.intro⟩ (fun hHeld => ?_)
      try simp only [Act.put, List.setIfInBounds_toArray, List.set_cons_zero, List.set_cons_succ]
      clear hK K
      refine takeD 5 32 (.agg #[.bool false, .slice a4 n4 k4]) (by exact rfl) rfl (by kernel_rfl) (by kernel_rfl) (by kernel_rfl) (fun _ _ _ h => h) (Or.inl ⟨by rfl, ?_⟩) (by assumption) ?_
      · intro wq hS
        go_simp
      try simp only [Act.put, List.setIfInBounds_toArray, List.set_cons_zero, List.set_cons_succ]
      clear hHeld
      refine wpAnyH_ready (rs := [6]) (by kernel_rfl) (by simp) ?_
      refine AllReadyH.cons (by exact rfl) (fun K hK => ?_) AllReadyH.nil
      go_simp
      refine (prod_in v1 _ cc (10 ^ cdg i) _ J1_c25.out (ten_in N4_c25.out) (mi_inr IC.out) (by have := mi_ten (c := 1) ⟨by decide, by decide⟩ (cdg_le i); rw [Int.one_mul] at this; exact this)).mono ?_
      rintro e wc26 ⟨⟨v6, rfl, ic26⟩, bc26⟩
      have VD_c26 := (show Hid _ from VD_c25.out.step bc26)
      have VR_c26 := (show Hid _ from VR_c25.out.step bc26)
      have J1_c26 := (show Hid _ from J1_c25.out.step bc26)
      have XV_c26 := (show Hid _ from XV_c25.out.step bc26)
      have N4_c26 := (show Hid _ from N4_c25.out.step bc26)
      have BB_c26 := (show Hid _ from BB_c25.out.trans (bc26.mono BB_c25.out.size))
      have J6_c26 := (show Hid _ from ic26)
      clear VD_c25 VR_c25 J1_c25 XV_c25 N4_c25 BB_c25
      clear bc26 ic26
      go_wp2_with fail
      refine hK.out _ _ ⟨VD_c26.out, True.intro⟩ (fun hHeld => ?_)
      try simp only [Act.put, List.setIfInBounds_toArray, List.set_cons_zero, List.set_cons_succ]
      clear hK K
      clear hHeld
      refine wpAnyH_ready (rs := [9]) (by kernel_rfl) (by simp) ?_
      refine AllReadyH.cons (by exact rfl) (fun K hK => ?_) AllReadyH.nil
      go_simp
      refine (ten_ok s _ (by have := HS.out; omega)).mono ?_
      rintro e wc27 ⟨⟨r9, rfl, ic27⟩, bc27⟩
      have VD_c27 := (show Hid _ from VD_c26.out.step bc27)
      have VR_c27 := (show Hid _ from VR_c26.out.step bc27)
      have J1_c27 := (show Hid _ from J1_c26.out.step bc27)
      have XV_c27 := (show Hid _ from XV_c26.out.step bc27)
      have N4_c27 := (show Hid _ from N4_c26.out.step bc27)
      have J6_c27 := (show Hid _ from J6_c26.out.step bc27)
      have BB_c27 := (show Hid _ from BB_c26.out.trans (bc27.mono BB_c26.out.size))
      have N9_c27 := (show Hid _ from ic27)
      clear VD_c26 VR_c26 J1_c26 XV_c26 N4_c26 J6_c26 BB_c26
      clear bc27 ic27
      obtain ⟨a9, n9, k9, rfl⟩ := N9_c27.out.form
      go_wp2_with fail
      refine hK.out _ _ ⟨VD_c27.out, True.intro⟩ (fun hHeld => ?_)
      try simp only [Act.put, List.setIfInBounds_toArray, List.set_cons_zero, List.set_cons_succ]
      clear hK K
      clear hHeld
      refine wpAnyH_ready (rs := [11]) (by kernel_rfl) (by simp) ?_
      refine AllReadyH.cons (by exact rfl) (fun K hK => ?_) AllReadyH.nil
      go_simp
      refine (rounded_in v6 _ (cc * 10 ^ cdg i) (10 ^ s) mode _ J6_c27.out N9_c27.out (mi_ten IC.out (cdg_le i)) (ten_md s (by have := HS.out; omega)) (Nat.pow_pos (by decide)) HM.out).mono ?_
      rintro e wc28 ⟨⟨vv, rfl, ic28⟩, bc28⟩
      have VD_c28 := (show Hid _ from VD_c27.out.step bc28)
      have VR_c28 := (show Hid _ from VR_c27.out.step bc28)
      have J1_c28 := (show Hid _ from J1_c27.out.step bc28)
      have XV_c28 := (show Hid _ from XV_c27.out.step bc28)
      have N4_c28 := (show Hid _ from N4_c27.out.step bc28)
      have J6_c28 := (show Hid _ from J6_c27.out.step bc28)
      have N9_c28 := (show Hid _ from N9_c27.out.step bc28)
      have BB_c28 := (show Hid _ from BB_c27.out.trans (bc28.mono BB_c27.out.size))
      rw [HRV.out] at ic28
      have JJ_c28 := (show Hid _ from ic28)
      clear VD_c27 VR_c27 J1_c27 XV_c27 N4_c27 J6_c27 N9_c27 BB_c27
      clear bc28 ic28
      go_wp2_with fail
      refine hK.out _ _ ⟨VD_c28.out, True.intro⟩ (fun hHeld => ?_)
      try simp only [Act.put, List.setIfInBounds_toArray, List.set_cons_zero, List.set_cons_succ]
      clear hK K
      clear hHeld
      obtain ⟨m5, a5, n5, k5, rfl, _⟩ := JJ_c28.out.form
      refine wpAnyH_ready (rs := [13]) (by kernel_rfl) (by simp) ?_
      refine AllReadyH.cons (by exact rfl) (fun K hK => ?_) AllReadyH.nil
      refine stAn (by rfl) (by rfl) 84 _ _ (by rfl) ab (by rfl) [.bool false, .slice none 0 0] [.bool m5, .slice a5 n5 k5] (by rfl) 84 XV_c28.out infoW rfl (il_one _ _ _ _) ?_
      intro w9 v9 u9
      have VD_9 := (show Hid _ from VD_c28.out.upd u9 (by have := HAB.out; omega))
      refine hK.out _ _ ⟨VD_9.out, True.intro⟩ (fun hHeld => ?_)
      clear hK K hHeld
      refine wpAnyH_done (by kernel_rfl) ?_ _
      refine NoPanic.normal ?_
      have XV_9 := (show Hid _ from v9)
      have JJ_9 := (show Hid _ from JJ_c28.out.upd u9 XV_c28.out (by decide))
      have VR_9 := (show Hid _ from VR_c28.out.upd u9 (by have := HAB.out; omega))
      have BB_9 := (show Hid _ from u9.bel BB_c28.out (by have := HAB.out; omega))
      clear v9 u9 VD_9
      clear VD_c28 VR_c28 J1_c28 XV_c28 N4_c28 J6_c28 N9_c28 JJ_c28 BB_c28
      go_wp2_with (refine ldA rfl 84 _ rfl ab (by rfl) [.bool m5, .slice a5 n5 k5] _ XV_9.out _ Tryz.underlying84 rfl infoW ?_)
      refine (small_yes _ R _ JJ_9.out (by have := HR0.out; omega) (by have := HR0.out; omega)).mono ?_
      rintro e wb ⟨rfl, bb⟩
      have VRX := (show Hid _ from VR_9.out.step bb)
      have BBX := (show Hid _ from BB_9.out.trans (bb.mono BB_9.out.size))
      clear bb VR_9 BB_9 JJ_9 XV_9
      go_wp2_with fail
      refine (ramount_ok R _).mono ?_
      rintro e wx ⟨rfl, hq⟩
      obtain rfl := hq.symm
      rw [HWI.out]
      go_wp2_with (refine stA rfl 23 _ _ rfl (w.heap.size + 1) (by rfl) (mcl 0 0) (mcl 0 0) (by rfl) 23 VRX.out infoM rfl (mcl_one _ _) ?_; intro wf vf uf)
      have hld := run_loadVar_row (P := Tryz.prog) wf (w.heap.size + 1) 23 23 _ (0, 0) _ vf.blk Tryz.underlying23 rfl infoM
      exact bodyPost_ret (v := .tuple #[.agg (mcl 0 0).toArray, .int .i64 4]) (by simp [results, Tryz.results23, asAddr, hld]) rfl ⟨rfl, uf.bel BBX.out (by omega)⟩
  · go_simp
    have VD_c2 := (show Hid _ from VD_z.out.alloc (.cells ([.bool false, .slice none 0 0] : List Value).toArray 84))
    have VR_c2 := (show Hid _ from VR_z.out.alloc (.cells ([.bool false, .slice none 0 0] : List Value).toArray 84))
    have BB_c2 := (show Hid _ from BB_z.out.alloc BB_z.out.size (.cells ([.bool false, .slice none 0 0] : List Value).toArray 84))
    have XV_c2 := (show Hid _ from va_new wz [.bool false, .slice none 0 0] 84)
    have HAB : Hid (w.heap.size + 1 < wz.heap.size) := VR_z.out.lt
    refine hK.out _ _ ⟨VD_c2.out, True.intro⟩ (fun hHeld => ?_)
    try simp only [Act.put, List.setIfInBounds_toArray, List.set_cons_zero, List.set_cons_succ]
    clear hK K hHeld
    clear VD_z VR_z BB_z
    change wpAnyH _ _ _ _ _ _ _ _ (wz.alloc (.cells ([.bool false, .slice none 0 0] : List Value).toArray 84))
    generalize wz.alloc (.cells ([.bool false, .slice none 0 0] : List Value).toArray 84) = wc2 at *
    generalize wz.heap.size = ab at *
    refine wpAnyH_ready (rs := [1]) (by kernel_rfl) (by simp) ?_
    refine AllReadyH.cons (by exact rfl) (fun K hK => ?_) AllReadyH.nil
    go_simp
    refine (coef_ok cc s _ IC.out).mono ?_
    rintro e wc29 ⟨⟨v1, rfl, ic29⟩, bc29⟩
    have VD_c29 := (show Hid _ from VD_c2.out.step bc29)
    have VR_c29 := (show Hid _ from VR_c2.out.step bc29)
    have XV_c29 := (show Hid _ from XV_c2.out.step bc29)
    have BB_c29 := (show Hid _ from BB_c2.out.trans (bc29.mono BB_c2.out.size))
    have J1_c29 := (show Hid _ from ic29)
    clear VD_c2 VR_c2 XV_c2 BB_c2
    clear bc29 ic29
    go_wp2_with fail
    refine hK.out _ _ ⟨VD_c29.out, True.intro⟩ (fun hHeld => ?_)
    try simp only [Act.put, List.setIfInBounds_toArray, List.set_cons_zero, List.set_cons_succ]
    clear hK K
    clear hHeld
    refine wpAnyH_ready (rs := [3]) (by kernel_rfl) (by simp) ?_
    refine AllReadyH.cons (by exact rfl) (fun K hK => ?_) AllReadyH.nil
    go_simp
    refine (rdigits_ok i _ hi).mono ?_
    rintro e wx ⟨rfl, hq⟩
    obtain rfl := hq.symm
    go_wp2_with fail
    refine hK.out _ _ ⟨VD_c29.out, True.intro⟩ (fun hHeld => ?_)
    try simp only [Act.put, List.setIfInBounds_toArray, List.set_cons_zero, List.set_cons_succ]
    clear hK K hHeld
    refine wpAnyH_ready (rs := [4]) (by kernel_rfl) (by simp) ?_
    refine AllReadyH.cons (by exact rfl) (fun K hK => ?_) AllReadyH.nil
    go_simp
    refine (ten_ok (cdg i) _ (by have := cdg_le i; omega)).mono ?_
    rintro e wc31 ⟨⟨r4, rfl, ic31⟩, bc31⟩
    have VD_c31 := (show Hid _ from VD_c29.out.step bc31)
    have VR_c31 := (show Hid _ from VR_c29.out.step bc31)
    have XV_c31 := (show Hid _ from XV_c29.out.step bc31)
    have J1_c31 := (show Hid _ from J1_c29.out.step bc31)
    have BB_c31 := (show Hid _ from BB_c29.out.trans (bc31.mono BB_c29.out.size))
    have N4_c31 := (show Hid _ from ic31)
    clear VD_c29 VR_c29 XV_c29 J1_c29 BB_c29
    clear bc31 ic31
    obtain ⟨a4, n4, k4, rfl⟩ := N4_c31.out.form
    go_wp2_with fail
    refine hK.out _ _ ⟨VD_c31.out, True.intro⟩ (fun hHeld => ?_)
    try simp only [Act.put, List.setIfInBounds_toArray, List.set_cons_zero, List.set_cons_succ]
    clear hK K
    refine takeD 5 32 (.agg #[.bool false, .slice a4 n4 k4]) (by exact rfl) rfl (by kernel_rfl) (by kernel_rfl) (by kernel_rfl) (fun _ _ _ h => h) (Or.inl ⟨by rfl, ?_⟩) (by assumption) ?_
    · intro wq hS
      go_simp
    try simp only [Act.put, List.setIfInBounds_toArray, List.set_cons_zero, List.set_cons_succ]
    clear hHeld
    refine wpAnyH_ready (rs := [6]) (by kernel_rfl) (by simp) ?_
    refine AllReadyH.cons (by exact rfl) (fun K hK => ?_) AllReadyH.nil
    go_simp
    refine (prod_in v1 _ cc (10 ^ cdg i) _ J1_c31.out (ten_in N4_c31.out) (mi_inr IC.out) (by have := mi_ten (c := 1) ⟨by decide, by decide⟩ (cdg_le i); rw [Int.one_mul] at this; exact this)).mono ?_
    rintro e wc32 ⟨⟨v6, rfl, ic32⟩, bc32⟩
    have VD_c32 := (show Hid _ from VD_c31.out.step bc32)
    have VR_c32 := (show Hid _ from VR_c31.out.step bc32)
    have XV_c32 := (show Hid _ from XV_c31.out.step bc32)
    have J1_c32 := (show Hid _ from J1_c31.out.step bc32)
    have N4_c32 := (show Hid _ from N4_c31.out.step bc32)
    have BB_c32 := (show Hid _ from BB_c31.out.trans (bc32.mono BB_c31.out.size))
    have J6_c32 := (show Hid _ from ic32)
    clear VD_c31 VR_c31 XV_c31 J1_c31 N4_c31 BB_c31
    clear bc32 ic32
    go_wp2_with fail
    refine hK.out _ _ ⟨VD_c32.out, True.intro⟩ (fun hHeld => ?_)
    try simp only [Act.put, List.setIfInBounds_toArray, List.set_cons_zero, List.set_cons_succ]
    clear hK K
    clear hHeld
    refine wpAnyH_ready (rs := [9]) (by kernel_rfl) (by simp) ?_
    refine AllReadyH.cons (by exact rfl) (fun K hK => ?_) AllReadyH.nil
    go_simp
    refine (ten_ok s _ (by have := HS.out; omega)).mono ?_
    rintro e wc33 ⟨⟨r9, rfl, ic33⟩, bc33⟩
    have VD_c33 := (show Hid _ from VD_c32.out.step bc33)
    have VR_c33 := (show Hid _ from VR_c32.out.step bc33)
    have XV_c33 := (show Hid _ from XV_c32.out.step bc33)
    have J1_c33 := (show Hid _ from J1_c32.out.step bc33)
    have N4_c33 := (show Hid _ from N4_c32.out.step bc33)
    have J6_c33 := (show Hid _ from J6_c32.out.step bc33)
    have BB_c33 := (show Hid _ from BB_c32.out.trans (bc33.mono BB_c32.out.size))
    have N9_c33 := (show Hid _ from ic33)
    clear VD_c32 VR_c32 XV_c32 J1_c32 N4_c32 J6_c32 BB_c32
    clear bc33 ic33
    obtain ⟨a9, n9, k9, rfl⟩ := N9_c33.out.form
    go_wp2_with fail
    refine hK.out _ _ ⟨VD_c33.out, True.intro⟩ (fun hHeld => ?_)
    try simp only [Act.put, List.setIfInBounds_toArray, List.set_cons_zero, List.set_cons_succ]
    clear hK K
    clear hHeld
    refine wpAnyH_ready (rs := [11]) (by kernel_rfl) (by simp) ?_
    refine AllReadyH.cons (by exact rfl) (fun K hK => ?_) AllReadyH.nil
    go_simp
    refine (rounded_in v6 _ (cc * 10 ^ cdg i) (10 ^ s) mode _ J6_c33.out N9_c33.out (mi_ten IC.out (cdg_le i)) (ten_md s (by have := HS.out; omega)) (Nat.pow_pos (by decide)) HM.out).mono ?_
    rintro e wc34 ⟨⟨vv, rfl, ic34⟩, bc34⟩
    have VD_c34 := (show Hid _ from VD_c33.out.step bc34)
    have VR_c34 := (show Hid _ from VR_c33.out.step bc34)
    have XV_c34 := (show Hid _ from XV_c33.out.step bc34)
    have J1_c34 := (show Hid _ from J1_c33.out.step bc34)
    have N4_c34 := (show Hid _ from N4_c33.out.step bc34)
    have J6_c34 := (show Hid _ from J6_c33.out.step bc34)
    have N9_c34 := (show Hid _ from N9_c33.out.step bc34)
    have BB_c34 := (show Hid _ from BB_c33.out.trans (bc34.mono BB_c33.out.size))
    rw [HRV.out] at ic34
    have JJ_c34 := (show Hid _ from ic34)
    clear VD_c33 VR_c33 XV_c33 J1_c33 N4_c33 J6_c33 N9_c33 BB_c33
    clear bc34 ic34
    go_wp2_with fail
    refine hK.out _ _ ⟨VD_c34.out, True.intro⟩ (fun hHeld => ?_)
    try simp only [Act.put, List.setIfInBounds_toArray, List.set_cons_zero, List.set_cons_succ]
    clear hK K
    clear hHeld
    obtain ⟨m5, a5, n5, k5, rfl, _⟩ := JJ_c34.out.form
    refine wpAnyH_ready (rs := [13]) (by kernel_rfl) (by simp) ?_
    refine AllReadyH.cons (by exact rfl) (fun K hK => ?_) AllReadyH.nil
    refine stAn (by rfl) (by rfl) 84 _ _ (by rfl) ab (by rfl) [.bool false, .slice none 0 0] [.bool m5, .slice a5 n5 k5] (by rfl) 84 XV_c34.out infoW rfl (il_one _ _ _ _) ?_
    intro w9 v9 u9
    have VD_9 := (show Hid _ from VD_c34.out.upd u9 (by have := HAB.out; omega))
    refine hK.out _ _ ⟨VD_9.out, True.intro⟩ (fun hHeld => ?_)
    clear hK K hHeld
    refine wpAnyH_done (by kernel_rfl) ?_ _
    refine NoPanic.normal ?_
    have XV_9 := (show Hid _ from v9)
    have JJ_9 := (show Hid _ from JJ_c34.out.upd u9 XV_c34.out (by decide))
    have VR_9 := (show Hid _ from VR_c34.out.upd u9 (by have := HAB.out; omega))
    have BB_9 := (show Hid _ from u9.bel BB_c34.out (by have := HAB.out; omega))
    clear v9 u9 VD_9
    clear VD_c34 VR_c34 XV_c34 J1_c34 N4_c34 J6_c34 N9_c34 JJ_c34 BB_c34
    go_wp2_with (refine ldA rfl 84 _ rfl ab (by rfl) [.bool m5, .slice a5 n5 k5] _ XV_9.out _ Tryz.underlying84 rfl infoW ?_)
    refine (small_yes _ R _ JJ_9.out (by have := HR0.out; omega) (by have := HR0.out; omega)).mono ?_
    rintro e wb ⟨rfl, bb⟩
    have VRX := (show Hid _ from VR_9.out.step bb)
    have BBX := (show Hid _ from BB_9.out.trans (bb.mono BB_9.out.size))
    clear bb VR_9 BB_9 JJ_9 XV_9
    go_wp2_with fail
    refine (ramount_ok R _).mono ?_
    rintro e wx ⟨rfl, hq⟩
    obtain rfl := hq.symm
    rw [HWI.out]
    go_wp2_with (refine stA rfl 23 _ _ rfl (w.heap.size + 1) (by rfl) (mcl 0 0) (mcl 0 0) (by rfl) 23 VRX.out infoM rfl (mcl_one _ _) ?_; intro wf vf uf)
    have hld := run_loadVar_row (P := Tryz.prog) wf (w.heap.size + 1) 23 23 _ (0, 0) _ vf.blk Tryz.underlying23 rfl infoM
    exact bodyPost_ret (v := .tuple #[.agg (mcl 0 0).toArray, .int .i64 4]) (by simp [results, Tryz.results23, asAddr, hld]) rfl ⟨rfl, uf.bel BBX.out (by omega)⟩
set_option maxHeartbeats 20000000 in
set_option maxRecDepth 100000 in
theorem dof_far (cc : Int) (s i mode : Nat) (R : Int) (w : World) (ic : InR cc) (hs : (s : Int) ≤ 18) (hi : i < 4) (hm : mode ≤ 6) (hR : R = rv cc s (cdg i) mode) (h64 : ¬ (-9223372036854775808 ≤ R ∧ R ≤ 9223372036854775807)) :
    Calls Tryz.prog 23 #[.agg (dcs cc s).toArray, .int .i64 i, .int .i64 mode] w fun e w' => e = .returned (.tuple #[.agg (mcl 0 0).toArray, .int .i64 4]) ∧ Below w.heap.size w w' := by
  have HRV : Hid (sv (decide (cc * 10 ^ cdg i < 0)) (rnd (decide (cc * 10 ^ cdg i < 0)) (cc * 10 ^ cdg i).natAbs (10 ^ s) mode) = R) := by
    show sv (decide (cc * 10 ^ cdg i < 0)) (rnd (decide (cc * 10 ^ cdg i < 0)) (cc * 10 ^ cdg i).natAbs (10 ^ s) mode) = R
    rw [rv_eq, hR]
  have IC : Hid (InR cc) := ic
  have HS := (show Hid _ from hs)
  have HM := (show Hid _ from hm)
  have HR0 := (show Hid _ from h64)
  clear h64
  have VD_0 := (show Hid _ from (va_new w (dcs cc s) 41).alloc (.cells (mcl 0 0).toArray 23))
  have VR_0 := (show Hid _ from va_new (w.alloc (.cells (dcs cc s).toArray 41)) (mcl 0 0) 23)
  rw [show (w.alloc (.cells (dcs cc s).toArray 41)).heap.size = w.heap.size + 1 by simp] at VR_0
  have BB_0 := (show Hid _ from ((Below.refl w.heap.size w).alloc (Nat.le_refl _) (.cells (dcs cc s).toArray 41)).alloc (by simp) (.cells (mcl 0 0).toArray 23))
  have hw := wi_yes (n := (i : Int)) (l := 0) (g := 3) (by omega) (by omega)
  have g1 : decide ((mode : Int) < 0) = false := decide_eq_false (by omega)
  have g2 : decide (6 < (mode : Int)) = false := decide_eq_false (by omega)
  clear ic hs hm hR
  go_enter Tryz.func23, Tryz.ntmps23
  go_wp2_with fail
  refine (rcur_ok i _).mono ?_
  rintro e wx ⟨rfl, hq⟩
  obtain rfl := hq.symm
  rw [hw]
  clear hw
  go_wp2_with (refine ldA rfl 41 _ rfl w.heap.size (by rfl) (dcs cc s) _ VD_0.out _ Tryz.underlying41 rfl infoD ?_)
  clear g1 g2
  refine (form_yes cc s _ IC.out HS.out).mono ?_
  rintro e w1 ⟨rfl, b1⟩
  have VD_1 := (show Hid _ from VD_0.out.step b1)
  have VR_1 := (show Hid _ from VR_0.out.step b1)
  have BB_1 := (show Hid _ from BB_0.out.trans (b1.mono BB_0.out.size))
  clear b1 VD_0 VR_0 BB_0
  go_upto_region 5 with fail
  refine wp_region_noPanic ?_
  refine wp_region_held_drew (S := fun w' => VA w' w.heap.size (dcs cc s) 41 ∧ True) (by kernel_rfl) ⟨VD_1.out.drew, True.intro⟩ (fun hHeld => ?_)
  refine takeD 0 27 (.agg #[.int .i64 (dhi cc), .int .u64 (dlo cc), .int .i64 s]) (by exact rfl) rfl (by kernel_rfl) (by kernel_rfl) (by kernel_rfl) (fun _ _ _ h => h) (Or.inl ⟨by rfl, ?_⟩) (by assumption) ?_
  · intro wq hS
    have h0 := hS.1.cell 0 (v := .int .i64 (dhi cc)) rfl
    have h1 := hS.1.cell 1 (v := .int .u64 (dlo cc)) rfl
    have h2 := hS.1.cell 2 (v := .int .i64 s) rfl
    go_simp
  try simp only [Act.put, List.setIfInBounds_toArray, List.set_cons_zero, List.set_cons_succ]
  refine takeD 2 29 (.int .i64 (i : Int)) (by exact rfl) rfl (by kernel_rfl) (by kernel_rfl) (by kernel_rfl) (fun _ _ _ h => h) (Or.inl ⟨by rfl, ?_⟩) (by assumption) ?_
  · intro wq hS
    go_simp
  try simp only [Act.put, List.setIfInBounds_toArray, List.set_cons_zero, List.set_cons_succ]
  refine takeD 7 34 (.pointer (some ⟨w.heap.size, 2, none⟩)) (by exact rfl) rfl (by kernel_rfl) (by kernel_rfl) (by kernel_rfl) (fun _ _ _ h => h) (Or.inl ⟨by rfl, ?_⟩) (by assumption) ?_
  · intro wq hS
    go_simp
  try simp only [Act.put, List.setIfInBounds_toArray, List.set_cons_zero, List.set_cons_succ]
  refine takeD 8 35 (.int .i64 (s : Int)) (by exact rfl) rfl (by kernel_rfl) (by kernel_rfl) (by kernel_rfl) (fun _ _ _ h => h) (Or.inl ⟨by rfl, ?_⟩) (by assumption) ?_
  · intro wq hS
    have h2 := hS.1.cell 2 (v := .int .i64 s) rfl
    go_simp
  try simp only [Act.put, List.setIfInBounds_toArray, List.set_cons_zero, List.set_cons_succ]
  refine takeD 10 37 (.int .i64 (mode : Int)) (by exact rfl) rfl (by kernel_rfl) (by kernel_rfl) (by kernel_rfl) (fun _ _ _ h => h) (Or.inl ⟨by rfl, ?_⟩) (by assumption) ?_
  · intro wq hS
    go_simp
  try simp only [Act.put, List.setIfInBounds_toArray, List.set_cons_zero, List.set_cons_succ]
  clear hHeld
  have VD_z := (show Hid _ from VD_1.out.drew)
  have VR_z := (show Hid _ from VR_1.out.drew)
  have BB_z := (show Hid _ from BB_1.out.drew)
  clear VD_1 VR_1 BB_1
  generalize w1.drew = wz at *
  refine wpAnyH_ready (rs := [1, 12]) (by kernel_rfl) (by simp) ?_
  refine AllReadyH.cons (by exact rfl) (fun K hK => ?_) (AllReadyH.cons (by exact rfl) (fun K hK => ?_) AllReadyH.nil)
  · go_simp
    refine (coef_ok cc s _ IC.out).mono ?_
    rintro e wc1 ⟨⟨v1, rfl, ic1⟩, bc1⟩
    have VD_c1 := (show Hid _ from VD_z.out.step bc1)
    have VR_c1 := (show Hid _ from VR_z.out.step bc1)
    have BB_c1 := (show Hid _ from BB_z.out.trans (bc1.mono BB_z.out.size))
    have J1_c1 := (show Hid _ from ic1)
    clear VD_z VR_z BB_z
    clear bc1 ic1
    go_wp2_with fail
    refine hK.out _ _ ⟨VD_c1.out, True.intro⟩ (fun hHeld => ?_)
    try simp only [Act.put, List.setIfInBounds_toArray, List.set_cons_zero, List.set_cons_succ]
    clear hK K
    clear hHeld
    refine wpAnyH_ready (rs := [3, 12]) (by kernel_rfl) (by simp) ?_
    refine AllReadyH.cons (by exact rfl) (fun K hK => ?_) (AllReadyH.cons (by exact rfl) (fun K hK => ?_) AllReadyH.nil)
    · go_simp
      refine (rdigits_ok i _ hi).mono ?_
      rintro e wx ⟨rfl, hq⟩
      obtain rfl := hq.symm
      go_wp2_with fail
      refine hK.out _ _ ⟨VD_c1.out, True.intro⟩ (fun hHeld => ?_)
      try simp only [Act.put, List.setIfInBounds_toArray, List.set_cons_zero, List.set_cons_succ]
      clear hK K hHeld
      refine wpAnyH_ready (rs := [4, 12]) (by kernel_rfl) (by simp) ?_
      refine AllReadyH.cons (by exact rfl) (fun K hK => ?_) (AllReadyH.cons (by exact rfl) (fun K hK => ?_) AllReadyH.nil)
      · go_simp
        refine (ten_ok (cdg i) _ (by have := cdg_le i; omega)).mono ?_
        rintro e wc5 ⟨⟨r4, rfl, ic5⟩, bc5⟩
        have VD_c5 := (show Hid _ from VD_c1.out.step bc5)
        have VR_c5 := (show Hid _ from VR_c1.out.step bc5)
        have J1_c5 := (show Hid _ from J1_c1.out.step bc5)
        have BB_c5 := (show Hid _ from BB_c1.out.trans (bc5.mono BB_c1.out.size))
        have N4_c5 := (show Hid _ from ic5)
        clear VD_c1 VR_c1 J1_c1 BB_c1
        clear bc5 ic5
        obtain ⟨a4, n4, k4, rfl⟩ := N4_c5.out.form
        go_wp2_with fail
        refine hK.out _ _ ⟨VD_c5.out, True.intro⟩ (fun hHeld => ?_)
        try simp only [Act.put, List.setIfInBounds_toArray, List.set_cons_zero, List.set_cons_succ]
        clear hK K
        refine takeD 5 32 (.agg #[.bool false, .slice a4 n4 k4]) (by exact rfl) rfl (by kernel_rfl) (by kernel_rfl) (by kernel_rfl) (fun _ _ _ h => h) (Or.inl ⟨by rfl, ?_⟩) (by assumption) ?_
        · intro wq hS
          go_simp
        try simp only [Act.put, List.setIfInBounds_toArray, List.set_cons_zero, List.set_cons_succ]
        clear hHeld
        refine wpAnyH_ready (rs := [6, 12]) (by kernel_rfl) (by simp) ?_
        refine AllReadyH.cons (by exact rfl) (fun K hK => ?_) (AllReadyH.cons (by exact rfl) (fun K hK => ?_) AllReadyH.nil)
        · go_simp
          refine (prod_in v1 _ cc (10 ^ cdg i) _ J1_c5.out (ten_in N4_c5.out) (mi_inr IC.out) (by have := mi_ten (c := 1) ⟨by decide, by decide⟩ (cdg_le i); rw [Int.one_mul] at this; exact this)).mono ?_
          rintro e wc7 ⟨⟨v6, rfl, ic7⟩, bc7⟩
          have VD_c7 := (show Hid _ from VD_c5.out.step bc7)
          have VR_c7 := (show Hid _ from VR_c5.out.step bc7)
          have J1_c7 := (show Hid _ from J1_c5.out.step bc7)
          have N4_c7 := (show Hid _ from N4_c5.out.step bc7)
          have BB_c7 := (show Hid _ from BB_c5.out.trans (bc7.mono BB_c5.out.size))
          have J6_c7 := (show Hid _ from ic7)
          clear VD_c5 VR_c5 J1_c5 N4_c5 BB_c5
          clear bc7 ic7
          go_wp2_with fail
          refine hK.out _ _ ⟨VD_c7.out, True.intro⟩ (fun hHeld => ?_)
          try simp only [Act.put, List.setIfInBounds_toArray, List.set_cons_zero, List.set_cons_succ]
          clear hK K
          clear hHeld
          refine wpAnyH_ready (rs := [9, 12]) (by kernel_rfl) (by simp) ?_
          refine AllReadyH.cons (by exact rfl) (fun K hK => ?_) (AllReadyH.cons (by exact rfl) (fun K hK => ?_) AllReadyH.nil)
          · go_simp
            refine (ten_ok s _ (by have := HS.out; omega)).mono ?_
            rintro e wc9 ⟨⟨r9, rfl, ic9⟩, bc9⟩
            have VD_c9 := (show Hid _ from VD_c7.out.step bc9)
            have VR_c9 := (show Hid _ from VR_c7.out.step bc9)
            have J1_c9 := (show Hid _ from J1_c7.out.step bc9)
            have N4_c9 := (show Hid _ from N4_c7.out.step bc9)
            have J6_c9 := (show Hid _ from J6_c7.out.step bc9)
            have BB_c9 := (show Hid _ from BB_c7.out.trans (bc9.mono BB_c7.out.size))
            have N9_c9 := (show Hid _ from ic9)
            clear VD_c7 VR_c7 J1_c7 N4_c7 J6_c7 BB_c7
            clear bc9 ic9
            obtain ⟨a9, n9, k9, rfl⟩ := N9_c9.out.form
            go_wp2_with fail
            refine hK.out _ _ ⟨VD_c9.out, True.intro⟩ (fun hHeld => ?_)
            try simp only [Act.put, List.setIfInBounds_toArray, List.set_cons_zero, List.set_cons_succ]
            clear hK K
            clear hHeld
            refine wpAnyH_ready (rs := [11, 12]) (by kernel_rfl) (by simp) ?_
            refine AllReadyH.cons (by exact rfl) (fun K hK => ?_) (AllReadyH.cons (by exact rfl) (fun K hK => ?_) AllReadyH.nil)
            · go_simp
              refine (rounded_in v6 _ (cc * 10 ^ cdg i) (10 ^ s) mode _ J6_c9.out N9_c9.out (mi_ten IC.out (cdg_le i)) (ten_md s (by have := HS.out; omega)) (Nat.pow_pos (by decide)) HM.out).mono ?_
              rintro e wc11 ⟨⟨vv, rfl, ic11⟩, bc11⟩
              have VD_c11 := (show Hid _ from VD_c9.out.step bc11)
              have VR_c11 := (show Hid _ from VR_c9.out.step bc11)
              have J1_c11 := (show Hid _ from J1_c9.out.step bc11)
              have N4_c11 := (show Hid _ from N4_c9.out.step bc11)
              have J6_c11 := (show Hid _ from J6_c9.out.step bc11)
              have N9_c11 := (show Hid _ from N9_c9.out.step bc11)
              have BB_c11 := (show Hid _ from BB_c9.out.trans (bc11.mono BB_c9.out.size))
              rw [HRV.out] at ic11
              have JJ_c11 := (show Hid _ from ic11)
              clear VD_c9 VR_c9 J1_c9 N4_c9 J6_c9 N9_c9 BB_c9
              clear bc11 ic11
              go_wp2_with fail
              refine hK.out _ _ ⟨VD_c11.out, True.intro⟩ (fun hHeld => ?_)
              try simp only [Act.put, List.setIfInBounds_toArray, List.set_cons_zero, List.set_cons_succ]
              clear hK K
              clear hHeld
              refine wpAnyH_ready (rs := [12]) (by kernel_rfl) (by simp) ?_
              refine AllReadyH.cons (by exact rfl) (fun K hK => ?_) AllReadyH.nil
              go_simp
              have VD_c13 := (show Hid _ from VD_c11.out.alloc (.cells ([.bool false, .slice none 0 0] : List Value).toArray 84))
              have VR_c13 := (show Hid _ from VR_c11.out.alloc (.cells ([.bool false, .slice none 0 0] : List Value).toArray 84))
              have J1_c13 := (show Hid _ from J1_c11.out.alloc (.cells ([.bool false, .slice none 0 0] : List Value).toArray 84))
              have N4_c13 := (show Hid _ from N4_c11.out.alloc (.cells ([.bool false, .slice none 0 0] : List Value).toArray 84))
              have J6_c13 := (show Hid _ from J6_c11.out.alloc (.cells ([.bool false, .slice none 0 0] : List Value).toArray 84))
              have N9_c13 := (show Hid _ from N9_c11.out.alloc (.cells ([.bool false, .slice none 0 0] : List Value).toArray 84))
              have JJ_c13 := (show Hid _ from JJ_c11.out.alloc (.cells ([.bool false, .slice none 0 0] : List Value).toArray 84))
              have BB_c13 := (show Hid _ from BB_c11.out.alloc BB_c11.out.size (.cells ([.bool false, .slice none 0 0] : List Value).toArray 84))
              have XV_c13 := (show Hid _ from va_new wc11 [.bool false, .slice none 0 0] 84)
              have HAB : Hid (w.heap.size + 1 < wc11.heap.size) := VR_c11.out.lt
              refine hK.out _ _ ⟨VD_c13.out, True.intro⟩ (fun hHeld => ?_)
              try simp only [Act.put, List.setIfInBounds_toArray, List.set_cons_zero, List.set_cons_succ]
              clear hK K hHeld
              clear VD_c11 VR_c11 J1_c11 N4_c11 J6_c11 N9_c11 JJ_c11 BB_c11
              change wpAnyH _ _ _ _ _ _ _ _ (wc11.alloc (.cells ([.bool false, .slice none 0 0] : List Value).toArray 84))
              generalize wc11.alloc (.cells ([.bool false, .slice none 0 0] : List Value).toArray 84) = wc13 at *
              generalize wc11.heap.size = ab at *
              obtain ⟨m5, a5, n5, k5, rfl, _⟩ := JJ_c13.out.form
              refine wpAnyH_ready (rs := [13]) (by kernel_rfl) (by simp) ?_
              refine AllReadyH.cons (by exact rfl) (fun K hK => ?_) AllReadyH.nil
              refine stAn (by rfl) (by rfl) 84 _ _ (by rfl) ab (by rfl) [.bool false, .slice none 0 0] [.bool m5, .slice a5 n5 k5] (by rfl) 84 XV_c13.out infoW rfl (il_one _ _ _ _) ?_
              intro w9 v9 u9
              have VD_9 := (show Hid _ from VD_c13.out.upd u9 (by have := HAB.out; omega))
              refine hK.out _ _ ⟨VD_9.out, True.intro⟩ (fun hHeld => ?_)
              clear hK K hHeld
              refine wpAnyH_done (by kernel_rfl) ?_ _
              refine NoPanic.normal ?_
              have XV_9 := (show Hid _ from v9)
              have JJ_9 := (show Hid _ from JJ_c13.out.upd u9 XV_c13.out (by decide))
              have VR_9 := (show Hid _ from VR_c13.out.upd u9 (by have := HAB.out; omega))
              have BB_9 := (show Hid _ from u9.bel BB_c13.out (by have := HAB.out; omega))
              clear v9 u9 VD_9
              clear VD_c13 VR_c13 J1_c13 N4_c13 J6_c13 N9_c13 JJ_c13 XV_c13 BB_c13
              go_wp2_with (refine ldA rfl 84 _ rfl ab (by rfl) [.bool m5, .slice a5 n5 k5] _ XV_9.out _ Tryz.underlying84 rfl infoW ?_)
              refine (small_no _ R _ JJ_9.out HR0.out).mono ?_
              rintro e wb ⟨rfl, bb⟩
              have VRX := (show Hid _ from VR_9.out.step bb)
              have BBX := (show Hid _ from BB_9.out.trans (bb.mono BB_9.out.size))
              clear bb VR_9 BB_9 JJ_9 XV_9
              go_wp2_with (refine stA rfl 23 _ _ rfl (w.heap.size + 1) (by rfl) (mcl 0 0) (mcl 0 0) (by rfl) 23 VRX.out infoM rfl (mcl_one _ _) ?_; intro wf vf uf)
              have hld := run_loadVar_row (P := Tryz.prog) wf (w.heap.size + 1) 23 23 _ (0, 0) _ vf.blk Tryz.underlying23 rfl infoM
              exact bodyPost_ret (v := .tuple #[.agg (mcl 0 0).toArray, .int .i64 4]) (by simp [results, Tryz.results23, asAddr, hld]) rfl ⟨rfl, uf.bel BBX.out (by omega)⟩
            · go_simp
              have VD_c12 := (show Hid _ from VD_c9.out.alloc (.cells ([.bool false, .slice none 0 0] : List Value).toArray 84))
              have VR_c12 := (show Hid _ from VR_c9.out.alloc (.cells ([.bool false, .slice none 0 0] : List Value).toArray 84))
              have J1_c12 := (show Hid _ from J1_c9.out.alloc (.cells ([.bool false, .slice none 0 0] : List Value).toArray 84))
              have N4_c12 := (show Hid _ from N4_c9.out.alloc (.cells ([.bool false, .slice none 0 0] : List Value).toArray 84))
              have J6_c12 := (show Hid _ from J6_c9.out.alloc (.cells ([.bool false, .slice none 0 0] : List Value).toArray 84))
              have N9_c12 := (show Hid _ from N9_c9.out.alloc (.cells ([.bool false, .slice none 0 0] : List Value).toArray 84))
              have BB_c12 := (show Hid _ from BB_c9.out.alloc BB_c9.out.size (.cells ([.bool false, .slice none 0 0] : List Value).toArray 84))
              have XV_c12 := (show Hid _ from va_new wc9 [.bool false, .slice none 0 0] 84)
              have HAB : Hid (w.heap.size + 1 < wc9.heap.size) := VR_c9.out.lt
              refine hK.out _ _ ⟨VD_c12.out, True.intro⟩ (fun hHeld => ?_)
              try simp only [Act.put, List.setIfInBounds_toArray, List.set_cons_zero, List.set_cons_succ]
              clear hK K hHeld
              clear VD_c9 VR_c9 J1_c9 N4_c9 J6_c9 N9_c9 BB_c9
              change wpAnyH _ _ _ _ _ _ _ _ (wc9.alloc (.cells ([.bool false, .slice none 0 0] : List Value).toArray 84))
              generalize wc9.alloc (.cells ([.bool false, .slice none 0 0] : List Value).toArray 84) = wc12 at *
              generalize wc9.heap.size = ab at *
              refine wpAnyH_ready (rs := [11]) (by kernel_rfl) (by simp) ?_
              refine AllReadyH.cons (by exact rfl) (fun K hK => ?_) AllReadyH.nil
              go_simp
              refine (rounded_in v6 _ (cc * 10 ^ cdg i) (10 ^ s) mode _ J6_c12.out N9_c12.out (mi_ten IC.out (cdg_le i)) (ten_md s (by have := HS.out; omega)) (Nat.pow_pos (by decide)) HM.out).mono ?_
              rintro e wc14 ⟨⟨vv, rfl, ic14⟩, bc14⟩
              have VD_c14 := (show Hid _ from VD_c12.out.step bc14)
              have VR_c14 := (show Hid _ from VR_c12.out.step bc14)
              have J1_c14 := (show Hid _ from J1_c12.out.step bc14)
              have N4_c14 := (show Hid _ from N4_c12.out.step bc14)
              have J6_c14 := (show Hid _ from J6_c12.out.step bc14)
              have N9_c14 := (show Hid _ from N9_c12.out.step bc14)
              have XV_c14 := (show Hid _ from XV_c12.out.step bc14)
              have BB_c14 := (show Hid _ from BB_c12.out.trans (bc14.mono BB_c12.out.size))
              rw [HRV.out] at ic14
              have JJ_c14 := (show Hid _ from ic14)
              clear VD_c12 VR_c12 J1_c12 N4_c12 J6_c12 N9_c12 XV_c12 BB_c12
              clear bc14 ic14
              go_wp2_with fail
              refine hK.out _ _ ⟨VD_c14.out, True.intro⟩ (fun hHeld => ?_)
              try simp only [Act.put, List.setIfInBounds_toArray, List.set_cons_zero, List.set_cons_succ]
              clear hK K
              clear hHeld
              obtain ⟨m5, a5, n5, k5, rfl, _⟩ := JJ_c14.out.form
              refine wpAnyH_ready (rs := [13]) (by kernel_rfl) (by simp) ?_
              refine AllReadyH.cons (by exact rfl) (fun K hK => ?_) AllReadyH.nil
              refine stAn (by rfl) (by rfl) 84 _ _ (by rfl) ab (by rfl) [.bool false, .slice none 0 0] [.bool m5, .slice a5 n5 k5] (by rfl) 84 XV_c14.out infoW rfl (il_one _ _ _ _) ?_
              intro w9 v9 u9
              have VD_9 := (show Hid _ from VD_c14.out.upd u9 (by have := HAB.out; omega))
              refine hK.out _ _ ⟨VD_9.out, True.intro⟩ (fun hHeld => ?_)
              clear hK K hHeld
              refine wpAnyH_done (by kernel_rfl) ?_ _
              refine NoPanic.normal ?_
              have XV_9 := (show Hid _ from v9)
              have JJ_9 := (show Hid _ from JJ_c14.out.upd u9 XV_c14.out (by decide))
              have VR_9 := (show Hid _ from VR_c14.out.upd u9 (by have := HAB.out; omega))
              have BB_9 := (show Hid _ from u9.bel BB_c14.out (by have := HAB.out; omega))
              clear v9 u9 VD_9
              clear VD_c14 VR_c14 J1_c14 N4_c14 J6_c14 N9_c14 XV_c14 JJ_c14 BB_c14
              go_wp2_with (refine ldA rfl 84 _ rfl ab (by rfl) [.bool m5, .slice a5 n5 k5] _ XV_9.out _ Tryz.underlying84 rfl infoW ?_)
              refine (small_no _ R _ JJ_9.out HR0.out).mono ?_
              rintro e wb ⟨rfl, bb⟩
              have VRX := (show Hid _ from VR_9.out.step bb)
              have BBX := (show Hid _ from BB_9.out.trans (bb.mono BB_9.out.size))
              clear bb VR_9 BB_9 JJ_9 XV_9
              go_wp2_with (refine stA rfl 23 _ _ rfl (w.heap.size + 1) (by rfl) (mcl 0 0) (mcl 0 0) (by rfl) 23 VRX.out infoM rfl (mcl_one _ _) ?_; intro wf vf uf)
              have hld := run_loadVar_row (P := Tryz.prog) wf (w.heap.size + 1) 23 23 _ (0, 0) _ vf.blk Tryz.underlying23 rfl infoM
              exact bodyPost_ret (v := .tuple #[.agg (mcl 0 0).toArray, .int .i64 4]) (by simp [results, Tryz.results23, asAddr, hld]) rfl ⟨rfl, uf.bel BBX.out (by omega)⟩
          · go_simp
            have VD_c10 := (show Hid _ from VD_c7.out.alloc (.cells ([.bool false, .slice none 0 0] : List Value).toArray 84))
            have VR_c10 := (show Hid _ from VR_c7.out.alloc (.cells ([.bool false, .slice none 0 0] : List Value).toArray 84))
            have J1_c10 := (show Hid _ from J1_c7.out.alloc (.cells ([.bool false, .slice none 0 0] : List Value).toArray 84))
            have N4_c10 := (show Hid _ from N4_c7.out.alloc (.cells ([.bool false, .slice none 0 0] : List Value).toArray 84))
            have J6_c10 := (show Hid _ from J6_c7.out.alloc (.cells ([.bool false, .slice none 0 0] : List Value).toArray 84))
            have BB_c10 := (show Hid _ from BB_c7.out.alloc BB_c7.out.size (.cells ([.bool false, .slice none 0 0] : List Value).toArray 84))
            have XV_c10 := (show Hid _ from va_new wc7 [.bool false, .slice none 0 0] 84)
            have HAB : Hid (w.heap.size + 1 < wc7.heap.size) := VR_c7.out.lt
            refine hK.out _ _ ⟨VD_c10.out, True.intro⟩ (fun hHeld => ?_)
            try simp only [Act.put, List.setIfInBounds_toArray, List.set_cons_zero, List.set_cons_succ]
            clear hK K hHeld
            clear VD_c7 VR_c7 J1_c7 N4_c7 J6_c7 BB_c7
            change wpAnyH _ _ _ _ _ _ _ _ (wc7.alloc (.cells ([.bool false, .slice none 0 0] : List Value).toArray 84))
            generalize wc7.alloc (.cells ([.bool false, .slice none 0 0] : List Value).toArray 84) = wc10 at *
            generalize wc7.heap.size = ab at *
            refine wpAnyH_ready (rs := [9]) (by kernel_rfl) (by simp) ?_
            refine AllReadyH.cons (by exact rfl) (fun K hK => ?_) AllReadyH.nil
            go_simp
            refine (ten_ok s _ (by have := HS.out; omega)).mono ?_
            rintro e wc15 ⟨⟨r9, rfl, ic15⟩, bc15⟩
            have VD_c15 := (show Hid _ from VD_c10.out.step bc15)
            have VR_c15 := (show Hid _ from VR_c10.out.step bc15)
            have J1_c15 := (show Hid _ from J1_c10.out.step bc15)
            have N4_c15 := (show Hid _ from N4_c10.out.step bc15)
            have J6_c15 := (show Hid _ from J6_c10.out.step bc15)
            have XV_c15 := (show Hid _ from XV_c10.out.step bc15)
            have BB_c15 := (show Hid _ from BB_c10.out.trans (bc15.mono BB_c10.out.size))
            have N9_c15 := (show Hid _ from ic15)
            clear VD_c10 VR_c10 J1_c10 N4_c10 J6_c10 XV_c10 BB_c10
            clear bc15 ic15
            obtain ⟨a9, n9, k9, rfl⟩ := N9_c15.out.form
            go_wp2_with fail
            refine hK.out _ _ ⟨VD_c15.out, True.intro⟩ (fun hHeld => ?_)
            try simp only [Act.put, List.setIfInBounds_toArray, List.set_cons_zero, List.set_cons_succ]
            clear hK K
            clear hHeld
            refine wpAnyH_ready (rs := [11]) (by kernel_rfl) (by simp) ?_
            refine AllReadyH.cons (by exact rfl) (fun K hK => ?_) AllReadyH.nil
            go_simp
            refine (rounded_in v6 _ (cc * 10 ^ cdg i) (10 ^ s) mode _ J6_c15.out N9_c15.out (mi_ten IC.out (cdg_le i)) (ten_md s (by have := HS.out; omega)) (Nat.pow_pos (by decide)) HM.out).mono ?_
            rintro e wc16 ⟨⟨vv, rfl, ic16⟩, bc16⟩
            have VD_c16 := (show Hid _ from VD_c15.out.step bc16)
            have VR_c16 := (show Hid _ from VR_c15.out.step bc16)
            have J1_c16 := (show Hid _ from J1_c15.out.step bc16)
            have N4_c16 := (show Hid _ from N4_c15.out.step bc16)
            have J6_c16 := (show Hid _ from J6_c15.out.step bc16)
            have XV_c16 := (show Hid _ from XV_c15.out.step bc16)
            have N9_c16 := (show Hid _ from N9_c15.out.step bc16)
            have BB_c16 := (show Hid _ from BB_c15.out.trans (bc16.mono BB_c15.out.size))
            rw [HRV.out] at ic16
            have JJ_c16 := (show Hid _ from ic16)
            clear VD_c15 VR_c15 J1_c15 N4_c15 J6_c15 XV_c15 N9_c15 BB_c15
            clear bc16 ic16
            go_wp2_with fail
            refine hK.out _ _ ⟨VD_c16.out, True.intro⟩ (fun hHeld => ?_)
            try simp only [Act.put, List.setIfInBounds_toArray, List.set_cons_zero, List.set_cons_succ]
            clear hK K
            clear hHeld
            obtain ⟨m5, a5, n5, k5, rfl, _⟩ := JJ_c16.out.form
            refine wpAnyH_ready (rs := [13]) (by kernel_rfl) (by simp) ?_
            refine AllReadyH.cons (by exact rfl) (fun K hK => ?_) AllReadyH.nil
            refine stAn (by rfl) (by rfl) 84 _ _ (by rfl) ab (by rfl) [.bool false, .slice none 0 0] [.bool m5, .slice a5 n5 k5] (by rfl) 84 XV_c16.out infoW rfl (il_one _ _ _ _) ?_
            intro w9 v9 u9
            have VD_9 := (show Hid _ from VD_c16.out.upd u9 (by have := HAB.out; omega))
            refine hK.out _ _ ⟨VD_9.out, True.intro⟩ (fun hHeld => ?_)
            clear hK K hHeld
            refine wpAnyH_done (by kernel_rfl) ?_ _
            refine NoPanic.normal ?_
            have XV_9 := (show Hid _ from v9)
            have JJ_9 := (show Hid _ from JJ_c16.out.upd u9 XV_c16.out (by decide))
            have VR_9 := (show Hid _ from VR_c16.out.upd u9 (by have := HAB.out; omega))
            have BB_9 := (show Hid _ from u9.bel BB_c16.out (by have := HAB.out; omega))
            clear v9 u9 VD_9
            clear VD_c16 VR_c16 J1_c16 N4_c16 J6_c16 XV_c16 N9_c16 JJ_c16 BB_c16
            go_wp2_with (refine ldA rfl 84 _ rfl ab (by rfl) [.bool m5, .slice a5 n5 k5] _ XV_9.out _ Tryz.underlying84 rfl infoW ?_)
            refine (small_no _ R _ JJ_9.out HR0.out).mono ?_
            rintro e wb ⟨rfl, bb⟩
            have VRX := (show Hid _ from VR_9.out.step bb)
            have BBX := (show Hid _ from BB_9.out.trans (bb.mono BB_9.out.size))
            clear bb VR_9 BB_9 JJ_9 XV_9
            go_wp2_with (refine stA rfl 23 _ _ rfl (w.heap.size + 1) (by rfl) (mcl 0 0) (mcl 0 0) (by rfl) 23 VRX.out infoM rfl (mcl_one _ _) ?_; intro wf vf uf)
            have hld := run_loadVar_row (P := Tryz.prog) wf (w.heap.size + 1) 23 23 _ (0, 0) _ vf.blk Tryz.underlying23 rfl infoM
            exact bodyPost_ret (v := .tuple #[.agg (mcl 0 0).toArray, .int .i64 4]) (by simp [results, Tryz.results23, asAddr, hld]) rfl ⟨rfl, uf.bel BBX.out (by omega)⟩
        · go_simp
          have VD_c8 := (show Hid _ from VD_c5.out.alloc (.cells ([.bool false, .slice none 0 0] : List Value).toArray 84))
          have VR_c8 := (show Hid _ from VR_c5.out.alloc (.cells ([.bool false, .slice none 0 0] : List Value).toArray 84))
          have J1_c8 := (show Hid _ from J1_c5.out.alloc (.cells ([.bool false, .slice none 0 0] : List Value).toArray 84))
          have N4_c8 := (show Hid _ from N4_c5.out.alloc (.cells ([.bool false, .slice none 0 0] : List Value).toArray 84))
          have BB_c8 := (show Hid _ from BB_c5.out.alloc BB_c5.out.size (.cells ([.bool false, .slice none 0 0] : List Value).toArray 84))
          have XV_c8 := (show Hid _ from va_new wc5 [.bool false, .slice none 0 0] 84)
          have HAB : Hid (w.heap.size + 1 < wc5.heap.size) := VR_c5.out.lt
          refine hK.out _ _ ⟨VD_c8.out, True.intro⟩ (fun hHeld => ?_)
          try simp only [Act.put, List.setIfInBounds_toArray, List.set_cons_zero, List.set_cons_succ]
          clear hK K hHeld
          clear VD_c5 VR_c5 J1_c5 N4_c5 BB_c5
          change wpAnyH _ _ _ _ _ _ _ _ (wc5.alloc (.cells ([.bool false, .slice none 0 0] : List Value).toArray 84))
          generalize wc5.alloc (.cells ([.bool false, .slice none 0 0] : List Value).toArray 84) = wc8 at *
          generalize wc5.heap.size = ab at *
          refine wpAnyH_ready (rs := [6]) (by kernel_rfl) (by simp) ?_
          refine AllReadyH.cons (by exact rfl) (fun K hK => ?_) AllReadyH.nil
          go_simp
          refine (prod_in v1 _ cc (10 ^ cdg i) _ J1_c8.out (ten_in N4_c8.out) (mi_inr IC.out) (by have := mi_ten (c := 1) ⟨by decide, by decide⟩ (cdg_le i); rw [Int.one_mul] at this; exact this)).mono ?_
          rintro e wc17 ⟨⟨v6, rfl, ic17⟩, bc17⟩
          have VD_c17 := (show Hid _ from VD_c8.out.step bc17)
          have VR_c17 := (show Hid _ from VR_c8.out.step bc17)
          have J1_c17 := (show Hid _ from J1_c8.out.step bc17)
          have N4_c17 := (show Hid _ from N4_c8.out.step bc17)
          have XV_c17 := (show Hid _ from XV_c8.out.step bc17)
          have BB_c17 := (show Hid _ from BB_c8.out.trans (bc17.mono BB_c8.out.size))
          have J6_c17 := (show Hid _ from ic17)
          clear VD_c8 VR_c8 J1_c8 N4_c8 XV_c8 BB_c8
          clear bc17 ic17
          go_wp2_with fail
          refine hK.out _ _ ⟨VD_c17.out, True.intro⟩ (fun hHeld => ?_)
          try simp only [Act.put, List.setIfInBounds_toArray, List.set_cons_zero, List.set_cons_succ]
          clear hK K
          clear hHeld
          refine wpAnyH_ready (rs := [9]) (by kernel_rfl) (by simp) ?_
          refine AllReadyH.cons (by exact rfl) (fun K hK => ?_) AllReadyH.nil
          go_simp
          refine (ten_ok s _ (by have := HS.out; omega)).mono ?_
          rintro e wc18 ⟨⟨r9, rfl, ic18⟩, bc18⟩
          have VD_c18 := (show Hid _ from VD_c17.out.step bc18)
          have VR_c18 := (show Hid _ from VR_c17.out.step bc18)
          have J1_c18 := (show Hid _ from J1_c17.out.step bc18)
          have N4_c18 := (show Hid _ from N4_c17.out.step bc18)
          have XV_c18 := (show Hid _ from XV_c17.out.step bc18)
          have J6_c18 := (show Hid _ from J6_c17.out.step bc18)
          have BB_c18 := (show Hid _ from BB_c17.out.trans (bc18.mono BB_c17.out.size))
          have N9_c18 := (show Hid _ from ic18)
          clear VD_c17 VR_c17 J1_c17 N4_c17 XV_c17 J6_c17 BB_c17
          clear bc18 ic18
          obtain ⟨a9, n9, k9, rfl⟩ := N9_c18.out.form
          go_wp2_with fail
          refine hK.out _ _ ⟨VD_c18.out, True.intro⟩ (fun hHeld => ?_)
          try simp only [Act.put, List.setIfInBounds_toArray, List.set_cons_zero, List.set_cons_succ]
          clear hK K
          clear hHeld
          refine wpAnyH_ready (rs := [11]) (by kernel_rfl) (by simp) ?_
          refine AllReadyH.cons (by exact rfl) (fun K hK => ?_) AllReadyH.nil
          go_simp
          refine (rounded_in v6 _ (cc * 10 ^ cdg i) (10 ^ s) mode _ J6_c18.out N9_c18.out (mi_ten IC.out (cdg_le i)) (ten_md s (by have := HS.out; omega)) (Nat.pow_pos (by decide)) HM.out).mono ?_
          rintro e wc19 ⟨⟨vv, rfl, ic19⟩, bc19⟩
          have VD_c19 := (show Hid _ from VD_c18.out.step bc19)
          have VR_c19 := (show Hid _ from VR_c18.out.step bc19)
          have J1_c19 := (show Hid _ from J1_c18.out.step bc19)
          have N4_c19 := (show Hid _ from N4_c18.out.step bc19)
          have XV_c19 := (show Hid _ from XV_c18.out.step bc19)
          have J6_c19 := (show Hid _ from J6_c18.out.step bc19)
          have N9_c19 := (show Hid _ from N9_c18.out.step bc19)
          have BB_c19 := (show Hid _ from BB_c18.out.trans (bc19.mono BB_c18.out.size))
          rw [HRV.out] at ic19
          have JJ_c19 := (show Hid _ from ic19)
          clear VD_c18 VR_c18 J1_c18 N4_c18 XV_c18 J6_c18 N9_c18 BB_c18
          clear bc19 ic19
          go_wp2_with fail
          refine hK.out _ _ ⟨VD_c19.out, True.intro⟩ (fun hHeld => ?_)
          try simp only [Act.put, List.setIfInBounds_toArray, List.set_cons_zero, List.set_cons_succ]
          clear hK K
          clear hHeld
          obtain ⟨m5, a5, n5, k5, rfl, _⟩ := JJ_c19.out.form
          refine wpAnyH_ready (rs := [13]) (by kernel_rfl) (by simp) ?_
          refine AllReadyH.cons (by exact rfl) (fun K hK => ?_) AllReadyH.nil
          refine stAn (by rfl) (by rfl) 84 _ _ (by rfl) ab (by rfl) [.bool false, .slice none 0 0] [.bool m5, .slice a5 n5 k5] (by rfl) 84 XV_c19.out infoW rfl (il_one _ _ _ _) ?_
          intro w9 v9 u9
          have VD_9 := (show Hid _ from VD_c19.out.upd u9 (by have := HAB.out; omega))
          refine hK.out _ _ ⟨VD_9.out, True.intro⟩ (fun hHeld => ?_)
          clear hK K hHeld
          refine wpAnyH_done (by kernel_rfl) ?_ _
          refine NoPanic.normal ?_
          have XV_9 := (show Hid _ from v9)
          have JJ_9 := (show Hid _ from JJ_c19.out.upd u9 XV_c19.out (by decide))
          have VR_9 := (show Hid _ from VR_c19.out.upd u9 (by have := HAB.out; omega))
          have BB_9 := (show Hid _ from u9.bel BB_c19.out (by have := HAB.out; omega))
          clear v9 u9 VD_9
          clear VD_c19 VR_c19 J1_c19 N4_c19 XV_c19 J6_c19 N9_c19 JJ_c19 BB_c19
          go_wp2_with (refine ldA rfl 84 _ rfl ab (by rfl) [.bool m5, .slice a5 n5 k5] _ XV_9.out _ Tryz.underlying84 rfl infoW ?_)
          refine (small_no _ R _ JJ_9.out HR0.out).mono ?_
          rintro e wb ⟨rfl, bb⟩
          have VRX := (show Hid _ from VR_9.out.step bb)
          have BBX := (show Hid _ from BB_9.out.trans (bb.mono BB_9.out.size))
          clear bb VR_9 BB_9 JJ_9 XV_9
          go_wp2_with (refine stA rfl 23 _ _ rfl (w.heap.size + 1) (by rfl) (mcl 0 0) (mcl 0 0) (by rfl) 23 VRX.out infoM rfl (mcl_one _ _) ?_; intro wf vf uf)
          have hld := run_loadVar_row (P := Tryz.prog) wf (w.heap.size + 1) 23 23 _ (0, 0) _ vf.blk Tryz.underlying23 rfl infoM
          exact bodyPost_ret (v := .tuple #[.agg (mcl 0 0).toArray, .int .i64 4]) (by simp [results, Tryz.results23, asAddr, hld]) rfl ⟨rfl, uf.bel BBX.out (by omega)⟩
      · go_simp
        have VD_c6 := (show Hid _ from VD_c1.out.alloc (.cells ([.bool false, .slice none 0 0] : List Value).toArray 84))
        have VR_c6 := (show Hid _ from VR_c1.out.alloc (.cells ([.bool false, .slice none 0 0] : List Value).toArray 84))
        have J1_c6 := (show Hid _ from J1_c1.out.alloc (.cells ([.bool false, .slice none 0 0] : List Value).toArray 84))
        have BB_c6 := (show Hid _ from BB_c1.out.alloc BB_c1.out.size (.cells ([.bool false, .slice none 0 0] : List Value).toArray 84))
        have XV_c6 := (show Hid _ from va_new wc1 [.bool false, .slice none 0 0] 84)
        have HAB : Hid (w.heap.size + 1 < wc1.heap.size) := VR_c1.out.lt
        refine hK.out _ _ ⟨VD_c6.out, True.intro⟩ (fun hHeld => ?_)
        try simp only [Act.put, List.setIfInBounds_toArray, List.set_cons_zero, List.set_cons_succ]
        clear hK K hHeld
        clear VD_c1 VR_c1 J1_c1 BB_c1
        change wpAnyH _ _ _ _ _ _ _ _ (wc1.alloc (.cells ([.bool false, .slice none 0 0] : List Value).toArray 84))
        generalize wc1.alloc (.cells ([.bool false, .slice none 0 0] : List Value).toArray 84) = wc6 at *
        generalize wc1.heap.size = ab at *
        refine wpAnyH_ready (rs := [4]) (by kernel_rfl) (by simp) ?_
        refine AllReadyH.cons (by exact rfl) (fun K hK => ?_) AllReadyH.nil
        go_simp
        refine (ten_ok (cdg i) _ (by have := cdg_le i; omega)).mono ?_
        rintro e wc20 ⟨⟨r4, rfl, ic20⟩, bc20⟩
        have VD_c20 := (show Hid _ from VD_c6.out.step bc20)
        have VR_c20 := (show Hid _ from VR_c6.out.step bc20)
        have J1_c20 := (show Hid _ from J1_c6.out.step bc20)
        have XV_c20 := (show Hid _ from XV_c6.out.step bc20)
        have BB_c20 := (show Hid _ from BB_c6.out.trans (bc20.mono BB_c6.out.size))
        have N4_c20 := (show Hid _ from ic20)
        clear VD_c6 VR_c6 J1_c6 XV_c6 BB_c6
        clear bc20 ic20
        obtain ⟨a4, n4, k4, rfl⟩ := N4_c20.out.form
        go_wp2_with fail
        refine hK.out _ _ ⟨VD_c20.out, True.intro⟩ (fun hHeld => ?_)
        try simp only [Act.put, List.setIfInBounds_toArray, List.set_cons_zero, List.set_cons_succ]
        clear hK K
        refine takeD 5 32 (.agg #[.bool false, .slice a4 n4 k4]) (by exact rfl) rfl (by kernel_rfl) (by kernel_rfl) (by kernel_rfl) (fun _ _ _ h => h) (Or.inl ⟨by rfl, ?_⟩) (by assumption) ?_
        · intro wq hS
          go_simp
        try simp only [Act.put, List.setIfInBounds_toArray, List.set_cons_zero, List.set_cons_succ]
        clear hHeld
        refine wpAnyH_ready (rs := [6]) (by kernel_rfl) (by simp) ?_
        refine AllReadyH.cons (by exact rfl) (fun K hK => ?_) AllReadyH.nil
        go_simp
        refine (prod_in v1 _ cc (10 ^ cdg i) _ J1_c20.out (ten_in N4_c20.out) (mi_inr IC.out) (by have := mi_ten (c := 1) ⟨by decide, by decide⟩ (cdg_le i); rw [Int.one_mul] at this; exact this)).mono ?_
        rintro e wc21 ⟨⟨v6, rfl, ic21⟩, bc21⟩
        have VD_c21 := (show Hid _ from VD_c20.out.step bc21)
        have VR_c21 := (show Hid _ from VR_c20.out.step bc21)
        have J1_c21 := (show Hid _ from J1_c20.out.step bc21)
        have XV_c21 := (show Hid _ from XV_c20.out.step bc21)
        have N4_c21 := (show Hid _ from N4_c20.out.step bc21)
        have BB_c21 := (show Hid _ from BB_c20.out.trans (bc21.mono BB_c20.out.size))
        have J6_c21 := (show Hid _ from ic21)
        clear VD_c20 VR_c20 J1_c20 XV_c20 N4_c20 BB_c20
        clear bc21 ic21
        go_wp2_with fail
        refine hK.out _ _ ⟨VD_c21.out, True.intro⟩ (fun hHeld => ?_)
        try simp only [Act.put, List.setIfInBounds_toArray, List.set_cons_zero, List.set_cons_succ]
        clear hK K
        clear hHeld
        refine wpAnyH_ready (rs := [9]) (by kernel_rfl) (by simp) ?_
        refine AllReadyH.cons (by exact rfl) (fun K hK => ?_) AllReadyH.nil
        go_simp
        refine (ten_ok s _ (by have := HS.out; omega)).mono ?_
        rintro e wc22 ⟨⟨r9, rfl, ic22⟩, bc22⟩
        have VD_c22 := (show Hid _ from VD_c21.out.step bc22)
        have VR_c22 := (show Hid _ from VR_c21.out.step bc22)
        have J1_c22 := (show Hid _ from J1_c21.out.step bc22)
        have XV_c22 := (show Hid _ from XV_c21.out.step bc22)
        have N4_c22 := (show Hid _ from N4_c21.out.step bc22)
        have J6_c22 := (show Hid _ from J6_c21.out.step bc22)
        have BB_c22 := (show Hid _ from BB_c21.out.trans (bc22.mono BB_c21.out.size))
        have N9_c22 := (show Hid _ from ic22)
        clear VD_c21 VR_c21 J1_c21 XV_c21 N4_c21 J6_c21 BB_c21
        clear bc22 ic22
        obtain ⟨a9, n9, k9, rfl⟩ := N9_c22.out.form
        go_wp2_with fail
        refine hK.out _ _ ⟨VD_c22.out, True.intro⟩ (fun hHeld => ?_)
        try simp only [Act.put, List.setIfInBounds_toArray, List.set_cons_zero, List.set_cons_succ]
        clear hK K
        clear hHeld
        refine wpAnyH_ready (rs := [11]) (by kernel_rfl) (by simp) ?_
        refine AllReadyH.cons (by exact rfl) (fun K hK => ?_) AllReadyH.nil
        go_simp
        refine (rounded_in v6 _ (cc * 10 ^ cdg i) (10 ^ s) mode _ J6_c22.out N9_c22.out (mi_ten IC.out (cdg_le i)) (ten_md s (by have := HS.out; omega)) (Nat.pow_pos (by decide)) HM.out).mono ?_
        rintro e wc23 ⟨⟨vv, rfl, ic23⟩, bc23⟩
        have VD_c23 := (show Hid _ from VD_c22.out.step bc23)
        have VR_c23 := (show Hid _ from VR_c22.out.step bc23)
        have J1_c23 := (show Hid _ from J1_c22.out.step bc23)
        have XV_c23 := (show Hid _ from XV_c22.out.step bc23)
        have N4_c23 := (show Hid _ from N4_c22.out.step bc23)
        have J6_c23 := (show Hid _ from J6_c22.out.step bc23)
        have N9_c23 := (show Hid _ from N9_c22.out.step bc23)
        have BB_c23 := (show Hid _ from BB_c22.out.trans (bc23.mono BB_c22.out.size))
        rw [HRV.out] at ic23
        have JJ_c23 := (show Hid _ from ic23)
        clear VD_c22 VR_c22 J1_c22 XV_c22 N4_c22 J6_c22 N9_c22 BB_c22
        clear bc23 ic23
        go_wp2_with fail
        refine hK.out _ _ ⟨VD_c23.out, True.intro⟩ (fun hHeld => ?_)
        try simp only [Act.put, List.setIfInBounds_toArray, List.set_cons_zero, List.set_cons_succ]
        clear hK K
        clear hHeld
        obtain ⟨m5, a5, n5, k5, rfl, _⟩ := JJ_c23.out.form
        refine wpAnyH_ready (rs := [13]) (by kernel_rfl) (by simp) ?_
        refine AllReadyH.cons (by exact rfl) (fun K hK => ?_) AllReadyH.nil
        refine stAn (by rfl) (by rfl) 84 _ _ (by rfl) ab (by rfl) [.bool false, .slice none 0 0] [.bool m5, .slice a5 n5 k5] (by rfl) 84 XV_c23.out infoW rfl (il_one _ _ _ _) ?_
        intro w9 v9 u9
        have VD_9 := (show Hid _ from VD_c23.out.upd u9 (by have := HAB.out; omega))
        refine hK.out _ _ ⟨VD_9.out, True.intro⟩ (fun hHeld => ?_)
        clear hK K hHeld
        refine wpAnyH_done (by kernel_rfl) ?_ _
        refine NoPanic.normal ?_
        have XV_9 := (show Hid _ from v9)
        have JJ_9 := (show Hid _ from JJ_c23.out.upd u9 XV_c23.out (by decide))
        have VR_9 := (show Hid _ from VR_c23.out.upd u9 (by have := HAB.out; omega))
        have BB_9 := (show Hid _ from u9.bel BB_c23.out (by have := HAB.out; omega))
        clear v9 u9 VD_9
        clear VD_c23 VR_c23 J1_c23 XV_c23 N4_c23 J6_c23 N9_c23 JJ_c23 BB_c23
        go_wp2_with (refine ldA rfl 84 _ rfl ab (by rfl) [.bool m5, .slice a5 n5 k5] _ XV_9.out _ Tryz.underlying84 rfl infoW ?_)
        refine (small_no _ R _ JJ_9.out HR0.out).mono ?_
        rintro e wb ⟨rfl, bb⟩
        have VRX := (show Hid _ from VR_9.out.step bb)
        have BBX := (show Hid _ from BB_9.out.trans (bb.mono BB_9.out.size))
        clear bb VR_9 BB_9 JJ_9 XV_9
        go_wp2_with (refine stA rfl 23 _ _ rfl (w.heap.size + 1) (by rfl) (mcl 0 0) (mcl 0 0) (by rfl) 23 VRX.out infoM rfl (mcl_one _ _) ?_; intro wf vf uf)
        have hld := run_loadVar_row (P := Tryz.prog) wf (w.heap.size + 1) 23 23 _ (0, 0) _ vf.blk Tryz.underlying23 rfl infoM
        exact bodyPost_ret (v := .tuple #[.agg (mcl 0 0).toArray, .int .i64 4]) (by simp [results, Tryz.results23, asAddr, hld]) rfl ⟨rfl, uf.bel BBX.out (by omega)⟩
    · go_simp
      have VD_c4 := (show Hid _ from VD_c1.out.alloc (.cells ([.bool false, .slice none 0 0] : List Value).toArray 84))
      have VR_c4 := (show Hid _ from VR_c1.out.alloc (.cells ([.bool false, .slice none 0 0] : List Value).toArray 84))
      have J1_c4 := (show Hid _ from J1_c1.out.alloc (.cells ([.bool false, .slice none 0 0] : List Value).toArray 84))
      have BB_c4 := (show Hid _ from BB_c1.out.alloc BB_c1.out.size (.cells ([.bool false, .slice none 0 0] : List Value).toArray 84))
      have XV_c4 := (show Hid _ from va_new wc1 [.bool false, .slice none 0 0] 84)
      have HAB : Hid (w.heap.size + 1 < wc1.heap.size) := VR_c1.out.lt
      refine hK.out _ _ ⟨VD_c4.out, True.intro⟩ (fun hHeld => ?_)
      try simp only [Act.put, List.setIfInBounds_toArray, List.set_cons_zero, List.set_cons_succ]
      clear hK K hHeld
      clear VD_c1 VR_c1 J1_c1 BB_c1
      change wpAnyH _ _ _ _ _ _ _ _ (wc1.alloc (.cells ([.bool false, .slice none 0 0] : List Value).toArray 84))
      generalize wc1.alloc (.cells ([.bool false, .slice none 0 0] : List Value).toArray 84) = wc4 at *
      generalize wc1.heap.size = ab at *
      refine wpAnyH_ready (rs := [3]) (by kernel_rfl) (by simp) ?_
      refine AllReadyH.cons (by exact rfl) (fun K hK => ?_) AllReadyH.nil
      go_simp
      refine (rdigits_ok i _ hi).mono ?_
      rintro e wx ⟨rfl, hq⟩
      obtain rfl := hq.symm
      go_wp2_with fail
      refine hK.out _ _ ⟨VD_c4.out, True.intro⟩ (fun hHeld => ?_)
      try simp only [Act.put, List.setIfInBounds_toArray, List.set_cons_zero, List.set_cons_succ]
      clear hK K hHeld
      refine wpAnyH_ready (rs := [4]) (by kernel_rfl) (by simp) ?_
      refine AllReadyH.cons (by exact rfl) (fun K hK => ?_) AllReadyH.nil
      go_simp
      refine (ten_ok (cdg i) _ (by have := cdg_le i; omega)).mono ?_
      rintro e wc25 ⟨⟨r4, rfl, ic25⟩, bc25⟩
      have VD_c25 := (show Hid _ from VD_c4.out.step bc25)
      have VR_c25 := (show Hid _ from VR_c4.out.step bc25)
      have J1_c25 := (show Hid _ from J1_c4.out.step bc25)
      have XV_c25 := (show Hid _ from XV_c4.out.step bc25)
      have BB_c25 := (show Hid _ from BB_c4.out.trans (bc25.mono BB_c4.out.size))
      have N4_c25 := (show Hid _ from ic25)
      clear VD_c4 VR_c4 J1_c4 XV_c4 BB_c4
      clear bc25 ic25
      obtain ⟨a4, n4, k4, rfl⟩ := N4_c25.out.form
      go_wp2_with fail
      refine hK.out _ _ ⟨VD_c25.out, True.intro⟩ (fun hHeld => ?_)
      try simp only [Act.put, List.setIfInBounds_toArray, List.set_cons_zero, List.set_cons_succ]
      clear hK K
      refine takeD 5 32 (.agg #[.bool false, .slice a4 n4 k4]) (by exact rfl) rfl (by kernel_rfl) (by kernel_rfl) (by kernel_rfl) (fun _ _ _ h => h) (Or.inl ⟨by rfl, ?_⟩) (by assumption) ?_
      · intro wq hS
        go_simp
      try simp only [Act.put, List.setIfInBounds_toArray, List.set_cons_zero, List.set_cons_succ]
      clear hHeld
      refine wpAnyH_ready (rs := [6]) (by kernel_rfl) (by simp) ?_
      refine AllReadyH.cons (by exact rfl) (fun K hK => ?_) AllReadyH.nil
      go_simp
      refine (prod_in v1 _ cc (10 ^ cdg i) _ J1_c25.out (ten_in N4_c25.out) (mi_inr IC.out) (by have := mi_ten (c := 1) ⟨by decide, by decide⟩ (cdg_le i); rw [Int.one_mul] at this; exact this)).mono ?_
      rintro e wc26 ⟨⟨v6, rfl, ic26⟩, bc26⟩
      have VD_c26 := (show Hid _ from VD_c25.out.step bc26)
      have VR_c26 := (show Hid _ from VR_c25.out.step bc26)
      have J1_c26 := (show Hid _ from J1_c25.out.step bc26)
      have XV_c26 := (show Hid _ from XV_c25.out.step bc26)
      have N4_c26 := (show Hid _ from N4_c25.out.step bc26)
      have BB_c26 := (show Hid _ from BB_c25.out.trans (bc26.mono BB_c25.out.size))
      have J6_c26 := (show Hid _ from ic26)
      clear VD_c25 VR_c25 J1_c25 XV_c25 N4_c25 BB_c25
      clear bc26 ic26
      go_wp2_with fail
      refine hK.out _ _ ⟨VD_c26.out, True.intro⟩ (fun hHeld => ?_)
      try simp only [Act.put, List.setIfInBounds_toArray, List.set_cons_zero, List.set_cons_succ]
      clear hK K
      clear hHeld
      refine wpAnyH_ready (rs := [9]) (by kernel_rfl) (by simp) ?_
      refine AllReadyH.cons (by exact rfl) (fun K hK => ?_) AllReadyH.nil
      go_simp
      refine (ten_ok s _ (by have := HS.out; omega)).mono ?_
      rintro e wc27 ⟨⟨r9, rfl, ic27⟩, bc27⟩
      have VD_c27 := (show Hid _ from VD_c26.out.step bc27)
      have VR_c27 := (show Hid _ from VR_c26.out.step bc27)
      have J1_c27 := (show Hid _ from J1_c26.out.step bc27)
      have XV_c27 := (show Hid _ from XV_c26.out.step bc27)
      have N4_c27 := (show Hid _ from N4_c26.out.step bc27)
      have J6_c27 := (show Hid _ from J6_c26.out.step bc27)
      have BB_c27 := (show Hid _ from BB_c26.out.trans (bc27.mono BB_c26.out.size))
      have N9_c27 := (show Hid _ from ic27)
      clear VD_c26 VR_c26 J1_c26 XV_c26 N4_c26 J6_c26 BB_c26
      clear bc27 ic27
      obtain ⟨a9, n9, k9, rfl⟩ := N9_c27.out.form
      go_wp2_with fail
      refine hK.out _ _ ⟨VD_c27.out, True.intro⟩ (fun hHeld => ?_)
      try simp only [Act.put, List.setIfInBounds_toArray, List.set_cons_zero, List.set_cons_succ]
      clear hK K
      clear hHeld
      refine wpAnyH_ready (rs := [11]) (by kernel_rfl) (by simp) ?_
      refine AllReadyH.cons (by exact rfl) (fun K hK => ?_) AllReadyH.nil
      go_simp
      refine (rounded_in v6 _ (cc * 10 ^ cdg i) (10 ^ s) mode _ J6_c27.out N9_c27.out (mi_ten IC.out (cdg_le i)) (ten_md s (by have := HS.out; omega)) (Nat.pow_pos (by decide)) HM.out).mono ?_
      rintro e wc28 ⟨⟨vv, rfl, ic28⟩, bc28⟩
      have VD_c28 := (show Hid _ from VD_c27.out.step bc28)
      have VR_c28 := (show Hid _ from VR_c27.out.step bc28)
      have J1_c28 := (show Hid _ from J1_c27.out.step bc28)
      have XV_c28 := (show Hid _ from XV_c27.out.step bc28)
      have N4_c28 := (show Hid _ from N4_c27.out.step bc28)
      have J6_c28 := (show Hid _ from J6_c27.out.step bc28)
      have N9_c28 := (show Hid _ from N9_c27.out.step bc28)
      have BB_c28 := (show Hid _ from BB_c27.out.trans (bc28.mono BB_c27.out.size))
      rw [HRV.out] at ic28
      have JJ_c28 := (show Hid _ from ic28)
      clear VD_c27 VR_c27 J1_c27 XV_c27 N4_c27 J6_c27 N9_c27 BB_c27
      clear bc28 ic28
      go_wp2_with fail
      refine hK.out _ _ ⟨VD_c28.out, True.intro⟩ (fun hHeld => ?_)
      try simp only [Act.put, List.setIfInBounds_toArray, List.set_cons_zero, List.set_cons_succ]
      clear hK K
      clear hHeld
      obtain ⟨m5, a5, n5, k5, rfl, _⟩ := JJ_c28.out.form
      refine wpAnyH_ready (rs := [13]) (by kernel_rfl) (by simp) ?_
      refine AllReadyH.cons (by exact rfl) (fun K hK => ?_) AllReadyH.nil
      refine stAn (by rfl) (by rfl) 84 _ _ (by rfl) ab (by rfl) [.bool false, .slice none 0 0] [.bool m5, .slice a5 n5 k5] (by rfl) 84 XV_c28.out infoW rfl (il_one _ _ _ _) ?_
      intro w9 v9 u9
      have VD_9 := (show Hid _ from VD_c28.out.upd u9 (by have := HAB.out; omega))
      refine hK.out _ _ ⟨VD_9.out, True.intro⟩ (fun hHeld => ?_)
      clear hK K hHeld
      refine wpAnyH_done (by kernel_rfl) ?_ _
      refine NoPanic.normal ?_
      have XV_9 := (show Hid _ from v9)
      have JJ_9 := (show Hid _ from JJ_c28.out.upd u9 XV_c28.out (by decide))
      have VR_9 := (show Hid _ from VR_c28.out.upd u9 (by have := HAB.out; omega))
      have BB_9 := (show Hid _ from u9.bel BB_c28.out (by have := HAB.out; omega))
      clear v9 u9 VD_9
      clear VD_c28 VR_c28 J1_c28 XV_c28 N4_c28 J6_c28 N9_c28 JJ_c28 BB_c28
      go_wp2_with (refine ldA rfl 84 _ rfl ab (by rfl) [.bool m5, .slice a5 n5 k5] _ XV_9.out _ Tryz.underlying84 rfl infoW ?_)
      refine (small_no _ R _ JJ_9.out HR0.out).mono ?_
      rintro e wb ⟨rfl, bb⟩
      have VRX := (show Hid _ from VR_9.out.step bb)
      have BBX := (show Hid _ from BB_9.out.trans (bb.mono BB_9.out.size))
      clear bb VR_9 BB_9 JJ_9 XV_9
      go_wp2_with (refine stA rfl 23 _ _ rfl (w.heap.size + 1) (by rfl) (mcl 0 0) (mcl 0 0) (by rfl) 23 VRX.out infoM rfl (mcl_one _ _) ?_; intro wf vf uf)
      have hld := run_loadVar_row (P := Tryz.prog) wf (w.heap.size + 1) 23 23 _ (0, 0) _ vf.blk Tryz.underlying23 rfl infoM
      exact bodyPost_ret (v := .tuple #[.agg (mcl 0 0).toArray, .int .i64 4]) (by simp [results, Tryz.results23, asAddr, hld]) rfl ⟨rfl, uf.bel BBX.out (by omega)⟩
  · go_simp
    have VD_c2 := (show Hid _ from VD_z.out.alloc (.cells ([.bool false, .slice none 0 0] : List Value).toArray 84))
    have VR_c2 := (show Hid _ from VR_z.out.alloc (.cells ([.bool false, .slice none 0 0] : List Value).toArray 84))
    have BB_c2 := (show Hid _ from BB_z.out.alloc BB_z.out.size (.cells ([.bool false, .slice none 0 0] : List Value).toArray 84))
    have XV_c2 := (show Hid _ from va_new wz [.bool false, .slice none 0 0] 84)
    have HAB : Hid (w.heap.size + 1 < wz.heap.size) := VR_z.out.lt
    refine hK.out _ _ ⟨VD_c2.out, True.intro⟩ (fun hHeld => ?_)
    try simp only [Act.put, List.setIfInBounds_toArray, List.set_cons_zero, List.set_cons_succ]
    clear hK K hHeld
    clear VD_z VR_z BB_z
    change wpAnyH _ _ _ _ _ _ _ _ (wz.alloc (.cells ([.bool false, .slice none 0 0] : List Value).toArray 84))
    generalize wz.alloc (.cells ([.bool false, .slice none 0 0] : List Value).toArray 84) = wc2 at *
    generalize wz.heap.size = ab at *
    refine wpAnyH_ready (rs := [1]) (by kernel_rfl) (by simp) ?_
    refine AllReadyH.cons (by exact rfl) (fun K hK => ?_) AllReadyH.nil
    go_simp
    refine (coef_ok cc s _ IC.out).mono ?_
    rintro e wc29 ⟨⟨v1, rfl, ic29⟩, bc29⟩
    have VD_c29 := (show Hid _ from VD_c2.out.step bc29)
    have VR_c29 := (show Hid _ from VR_c2.out.step bc29)
    have XV_c29 := (show Hid _ from XV_c2.out.step bc29)
    have BB_c29 := (show Hid _ from BB_c2.out.trans (bc29.mono BB_c2.out.size))
    have J1_c29 := (show Hid _ from ic29)
    clear VD_c2 VR_c2 XV_c2 BB_c2
    clear bc29 ic29
    go_wp2_with fail
    refine hK.out _ _ ⟨VD_c29.out, True.intro⟩ (fun hHeld => ?_)
    try simp only [Act.put, List.setIfInBounds_toArray, List.set_cons_zero, List.set_cons_succ]
    clear hK K
    clear hHeld
    refine wpAnyH_ready (rs := [3]) (by kernel_rfl) (by simp) ?_
    refine AllReadyH.cons (by exact rfl) (fun K hK => ?_) AllReadyH.nil
    go_simp
    refine (rdigits_ok i _ hi).mono ?_
    rintro e wx ⟨rfl, hq⟩
    obtain rfl := hq.symm
    go_wp2_with fail
    refine hK.out _ _ ⟨VD_c29.out, True.intro⟩ (fun hHeld => ?_)
    try simp only [Act.put, List.setIfInBounds_toArray, List.set_cons_zero, List.set_cons_succ]
    clear hK K hHeld
    refine wpAnyH_ready (rs := [4]) (by kernel_rfl) (by simp) ?_
    refine AllReadyH.cons (by exact rfl) (fun K hK => ?_) AllReadyH.nil
    go_simp
    refine (ten_ok (cdg i) _ (by have := cdg_le i; omega)).mono ?_
    rintro e wc31 ⟨⟨r4, rfl, ic31⟩, bc31⟩
    have VD_c31 := (show Hid _ from VD_c29.out.step bc31)
    have VR_c31 := (show Hid _ from VR_c29.out.step bc31)
    have XV_c31 := (show Hid _ from XV_c29.out.step bc31)
    have J1_c31 := (show Hid _ from J1_c29.out.step bc31)
    have BB_c31 := (show Hid _ from BB_c29.out.trans (bc31.mono BB_c29.out.size))
    have N4_c31 := (show Hid _ from ic31)
    clear VD_c29 VR_c29 XV_c29 J1_c29 BB_c29
    clear bc31 ic31
    obtain ⟨a4, n4, k4, rfl⟩ := N4_c31.out.form
    go_wp2_with fail
    refine hK.out _ _ ⟨VD_c31.out, True.intro⟩ (fun hHeld => ?_)
    try simp only [Act.put, List.setIfInBounds_toArray, List.set_cons_zero, List.set_cons_succ]
    clear hK K
    refine takeD 5 32 (.agg #[.bool false, .slice a4 n4 k4]) (by exact rfl) rfl (by kernel_rfl) (by kernel_rfl) (by kernel_rfl) (fun _ _ _ h => h) (Or.inl ⟨by rfl, ?_⟩) (by assumption) ?_
    · intro wq hS
      go_simp
    try simp only [Act.put, List.setIfInBounds_toArray, List.set_cons_zero, List.set_cons_succ]
    clear hHeld
    refine wpAnyH_ready (rs := [6]) (by kernel_rfl) (by simp) ?_
    refine AllReadyH.cons (by exact rfl) (fun K hK => ?_) AllReadyH.nil
    go_simp
    refine (prod_in v1 _ cc (10 ^ cdg i) _ J1_c31.out (ten_in N4_c31.out) (mi_inr IC.out) (by have := mi_ten (c := 1) ⟨by decide, by decide⟩ (cdg_le i); rw [Int.one_mul] at this; exact this)).mono ?_
    rintro e wc32 ⟨⟨v6, rfl, ic32⟩, bc32⟩
    have VD_c32 := (show Hid _ from VD_c31.out.step bc32)
    have VR_c32 := (show Hid _ from VR_c31.out.step bc32)
    have XV_c32 := (show Hid _ from XV_c31.out.step bc32)
    have J1_c32 := (show Hid _ from J1_c31.out.step bc32)
    have N4_c32 := (show Hid _ from N4_c31.out.step bc32)
    have BB_c32 := (show Hid _ from BB_c31.out.trans (bc32.mono BB_c31.out.size))
    have J6_c32 := (show Hid _ from ic32)
    clear VD_c31 VR_c31 XV_c31 J1_c31 N4_c31 BB_c31
    clear bc32 ic32
    go_wp2_with fail
    refine hK.out _ _ ⟨VD_c32.out, True.intro⟩ (fun hHeld => ?_)
    try simp only [Act.put, List.setIfInBounds_toArray, List.set_cons_zero, List.set_cons_succ]
    clear hK K
    clear hHeld
    refine wpAnyH_ready (rs := [9]) (by kernel_rfl) (by simp) ?_
    refine AllReadyH.cons (by exact rfl) (fun K hK => ?_) AllReadyH.nil
    go_simp
    refine (ten_ok s _ (by have := HS.out; omega)).mono ?_
    rintro e wc33 ⟨⟨r9, rfl, ic33⟩, bc33⟩
    have VD_c33 := (show Hid _ from VD_c32.out.step bc33)
    have VR_c33 := (show Hid _ from VR_c32.out.step bc33)
    have XV_c33 := (show Hid _ from XV_c32.out.step bc33)
    have J1_c33 := (show Hid _ from J1_c32.out.step bc33)
    have N4_c33 := (show Hid _ from N4_c32.out.step bc33)
    have J6_c33 := (show Hid _ from J6_c32.out.step bc33)
    have BB_c33 := (show Hid _ from BB_c32.out.trans (bc33.mono BB_c32.out.size))
    have N9_c33 := (show Hid _ from ic33)
    clear VD_c32 VR_c32 XV_c32 J1_c32 N4_c32 J6_c32 BB_c32
    clear bc33 ic33
    obtain ⟨a9, n9, k9, rfl⟩ := N9_c33.out.form
    go_wp2_with fail
    refine hK.out _ _ ⟨VD_c33.out, True.intro⟩ (fun hHeld => ?_)
    try simp only [Act.put, List.setIfInBounds_toArray, List.set_cons_zero, List.set_cons_succ]
    clear hK K
    clear hHeld
    refine wpAnyH_ready (rs := [11]) (by kernel_rfl) (by simp) ?_
    refine AllReadyH.cons (by exact rfl) (fun K hK => ?_) AllReadyH.nil
    go_simp
    refine (rounded_in v6 _ (cc * 10 ^ cdg i) (10 ^ s) mode _ J6_c33.out N9_c33.out (mi_ten IC.out (cdg_le i)) (ten_md s (by have := HS.out; omega)) (Nat.pow_pos (by decide)) HM.out).mono ?_
    rintro e wc34 ⟨⟨vv, rfl, ic34⟩, bc34⟩
    have VD_c34 := (show Hid _ from VD_c33.out.step bc34)
    have VR_c34 := (show Hid _ from VR_c33.out.step bc34)
    have XV_c34 := (show Hid _ from XV_c33.out.step bc34)
    have J1_c34 := (show Hid _ from J1_c33.out.step bc34)
    have N4_c34 := (show Hid _ from N4_c33.out.step bc34)
    have J6_c34 := (show Hid _ from J6_c33.out.step bc34)
    have N9_c34 := (show Hid _ from N9_c33.out.step bc34)
    have BB_c34 := (show Hid _ from BB_c33.out.trans (bc34.mono BB_c33.out.size))
    rw [HRV.out] at ic34
    have JJ_c34 := (show Hid _ from ic34)
    clear VD_c33 VR_c33 XV_c33 J1_c33 N4_c33 J6_c33 N9_c33 BB_c33
    clear bc34 ic34
    go_wp2_with fail
    refine hK.out _ _ ⟨VD_c34.out, True.intro⟩ (fun hHeld => ?_)
    try simp only [Act.put, List.setIfInBounds_toArray, List.set_cons_zero, List.set_cons_succ]
    clear hK K
    clear hHeld
    obtain ⟨m5, a5, n5, k5, rfl, _⟩ := JJ_c34.out.form
    refine wpAnyH_ready (rs := [13]) (by kernel_rfl) (by simp) ?_
    refine AllReadyH.cons (by exact rfl) (fun K hK => ?_) AllReadyH.nil
    refine stAn (by rfl) (by rfl) 84 _ _ (by rfl) ab (by rfl) [.bool false, .slice none 0 0] [.bool m5, .slice a5 n5 k5] (by rfl) 84 XV_c34.out infoW rfl (il_one _ _ _ _) ?_
    intro w9 v9 u9
    have VD_9 := (show Hid _ from VD_c34.out.upd u9 (by have := HAB.out; omega))
    refine hK.out _ _ ⟨VD_9.out, True.intro⟩ (fun hHeld => ?_)
    clear hK K hHeld
    refine wpAnyH_done (by kernel_rfl) ?_ _
    refine NoPanic.normal ?_
    have XV_9 := (show Hid _ from v9)
    have JJ_9 := (show Hid _ from JJ_c34.out.upd u9 XV_c34.out (by decide))
    have VR_9 := (show Hid _ from VR_c34.out.upd u9 (by have := HAB.out; omega))
    have BB_9 := (show Hid _ from u9.bel BB_c34.out (by have := HAB.out; omega))
    clear v9 u9 VD_9
    clear VD_c34 VR_c34 XV_c34 J1_c34 N4_c34 J6_c34 N9_c34 JJ_c34 BB_c34
    go_wp2_with (refine ldA rfl 84 _ rfl ab (by rfl) [.bool m5, .slice a5 n5 k5] _ XV_9.out _ Tryz.underlying84 rfl infoW ?_)
    refine (small_no _ R _ JJ_9.out HR0.out).mono ?_
    rintro e wb ⟨rfl, bb⟩
    have VRX := (show Hid _ from VR_9.out.step bb)
    have BBX := (show Hid _ from BB_9.out.trans (bb.mono BB_9.out.size))
    clear bb VR_9 BB_9 JJ_9 XV_9
    go_wp2_with (refine stA rfl 23 _ _ rfl (w.heap.size + 1) (by rfl) (mcl 0 0) (mcl 0 0) (by rfl) 23 VRX.out infoM rfl (mcl_one _ _) ?_; intro wf vf uf)
    have hld := run_loadVar_row (P := Tryz.prog) wf (w.heap.size + 1) 23 23 _ (0, 0) _ vf.blk Tryz.underlying23 rfl infoM
    exact bodyPost_ret (v := .tuple #[.agg (mcl 0 0).toArray, .int .i64 4]) (by simp [results, Tryz.results23, asAddr, hld]) rfl ⟨rfl, uf.bel BBX.out (by omega)⟩
end Go.Proofs.YteohncnjjgoemaaGreatDoor
/- money: Of and To out of form; both of them beside the document's. -/
namespace Go.Proofs.YteohncnjjgoemaaGreatDoor
open Go.RowKit
set_option linter.unusedVariables false
attribute [local go_sem ↓] Go.wp_at_zero Go.wp_at_succ

set_option maxRecDepth 100000 in
theorem dof_c (h l s c mode : Int) (w : World) (hc : ¬ (0 ≤ c ∧ c ≤ 3)) : Calls Tryz.prog 23 #[.agg #[.int .i64 h, .int .u64 l, .int .i64 s], .int .i64 c, .int .i64 mode] w fun e w' => e = .returned (.tuple #[.agg (mcl 0 0).toArray, .int .i64 1]) ∧ Below w.heap.size w w' := by
  have hw := wi_no hc
  clear hc
  have VD_0 := (show Hid _ from (va_new w ([.int .i64 h, .int .u64 l, .int .i64 s]) 41).alloc (.cells (mcl 0 0).toArray 23))
  have VR_0 := (show Hid _ from va_new (w.alloc (.cells ([.int .i64 h, .int .u64 l, .int .i64 s]).toArray 41)) (mcl 0 0) 23)
  rw [show (w.alloc (.cells ([.int .i64 h, .int .u64 l, .int .i64 s]).toArray 41)).heap.size = w.heap.size + 1 by simp] at VR_0
  have BB_0 := (show Hid _ from ((Below.refl w.heap.size w).alloc (Nat.le_refl _) (.cells ([.int .i64 h, .int .u64 l, .int .i64 s]).toArray 41)).alloc (by simp) (.cells (mcl 0 0).toArray 23))
  go_enter Tryz.func23, Tryz.ntmps23
  go_wp2_with fail
  refine (rcur_ok c _).mono ?_
  rintro e wx ⟨rfl, hq⟩
  obtain rfl := hq.symm
  rw [hw]
  go_wp2_with (refine stA rfl 23 _ _ rfl (w.heap.size + 1) (by rfl) (mcl 0 0) (mcl 0 0) (by rfl) 23 VR_0.out infoM rfl (mcl_one _ _) ?_; intro wf vf uf)
  have hld := run_loadVar_row (P := Tryz.prog) wf (w.heap.size + 1) 23 23 _ (0, 0) _ vf.blk Tryz.underlying23 rfl infoM
  exact bodyPost_ret (v := .tuple #[.agg (mcl 0 0).toArray, .int .i64 1]) (by simp [results, Tryz.results23, asAddr, hld]) rfl ⟨rfl, uf.bel BB_0.out (by omega)⟩
set_option maxRecDepth 100000 in
theorem dof_m1 (h l s c mode : Int) (w : World) (hc : 0 ≤ c ∧ c ≤ 3) (hm : mode < 0) : Calls Tryz.prog 23 #[.agg #[.int .i64 h, .int .u64 l, .int .i64 s], .int .i64 c, .int .i64 mode] w fun e w' => e = .returned (.tuple #[.agg (mcl 0 0).toArray, .int .i64 1]) ∧ Below w.heap.size w w' := by
  have hw := wi_yes hc.1 hc.2
  have g1 : decide (mode < 0) = true := decide_eq_true hm
  clear hc hm
  have VD_0 := (show Hid _ from (va_new w ([.int .i64 h, .int .u64 l, .int .i64 s]) 41).alloc (.cells (mcl 0 0).toArray 23))
  have VR_0 := (show Hid _ from va_new (w.alloc (.cells ([.int .i64 h, .int .u64 l, .int .i64 s]).toArray 41)) (mcl 0 0) 23)
  rw [show (w.alloc (.cells ([.int .i64 h, .int .u64 l, .int .i64 s]).toArray 41)).heap.size = w.heap.size + 1 by simp] at VR_0
  have BB_0 := (show Hid _ from ((Below.refl w.heap.size w).alloc (Nat.le_refl _) (.cells ([.int .i64 h, .int .u64 l, .int .i64 s]).toArray 41)).alloc (by simp) (.cells (mcl 0 0).toArray 23))
  go_enter Tryz.func23, Tryz.ntmps23
  go_wp2_with fail
  refine (rcur_ok c _).mono ?_
  rintro e wx ⟨rfl, hq⟩
  obtain rfl := hq.symm
  rw [hw]
  go_wp2_with (refine stA rfl 23 _ _ rfl (w.heap.size + 1) (by rfl) (mcl 0 0) (mcl 0 0) (by rfl) 23 VR_0.out infoM rfl (mcl_one _ _) ?_; intro wf vf uf)
  have hld := run_loadVar_row (P := Tryz.prog) wf (w.heap.size + 1) 23 23 _ (0, 0) _ vf.blk Tryz.underlying23 rfl infoM
  exact bodyPost_ret (v := .tuple #[.agg (mcl 0 0).toArray, .int .i64 1]) (by simp [results, Tryz.results23, asAddr, hld]) rfl ⟨rfl, uf.bel BB_0.out (by omega)⟩
set_option maxRecDepth 100000 in
theorem dof_m2 (h l s c mode : Int) (w : World) (hc : 0 ≤ c ∧ c ≤ 3) (hm : 6 < mode) : Calls Tryz.prog 23 #[.agg #[.int .i64 h, .int .u64 l, .int .i64 s], .int .i64 c, .int .i64 mode] w fun e w' => e = .returned (.tuple #[.agg (mcl 0 0).toArray, .int .i64 1]) ∧ Below w.heap.size w w' := by
  have hw := wi_yes hc.1 hc.2
  have g1 : decide (mode < 0) = false := decide_eq_false (by omega)
  have g2 : decide (6 < mode) = true := decide_eq_true hm
  clear hc hm
  have VD_0 := (show Hid _ from (va_new w ([.int .i64 h, .int .u64 l, .int .i64 s]) 41).alloc (.cells (mcl 0 0).toArray 23))
  have VR_0 := (show Hid _ from va_new (w.alloc (.cells ([.int .i64 h, .int .u64 l, .int .i64 s]).toArray 41)) (mcl 0 0) 23)
  rw [show (w.alloc (.cells ([.int .i64 h, .int .u64 l, .int .i64 s]).toArray 41)).heap.size = w.heap.size + 1 by simp] at VR_0
  have BB_0 := (show Hid _ from ((Below.refl w.heap.size w).alloc (Nat.le_refl _) (.cells ([.int .i64 h, .int .u64 l, .int .i64 s]).toArray 41)).alloc (by simp) (.cells (mcl 0 0).toArray 23))
  go_enter Tryz.func23, Tryz.ntmps23
  go_wp2_with fail
  refine (rcur_ok c _).mono ?_
  rintro e wx ⟨rfl, hq⟩
  obtain rfl := hq.symm
  rw [hw]
  go_wp2_with (refine stA rfl 23 _ _ rfl (w.heap.size + 1) (by rfl) (mcl 0 0) (mcl 0 0) (by rfl) 23 VR_0.out infoM rfl (mcl_one _ _) ?_; intro wf vf uf)
  have hld := run_loadVar_row (P := Tryz.prog) wf (w.heap.size + 1) 23 23 _ (0, 0) _ vf.blk Tryz.underlying23 rfl infoM
  exact bodyPost_ret (v := .tuple #[.agg (mcl 0 0).toArray, .int .i64 1]) (by simp [results, Tryz.results23, asAddr, hld]) rfl ⟨rfl, uf.bel BB_0.out (by omega)⟩
set_option maxRecDepth 100000 in
theorem dof_f (h l s c mode : Int) (w : World) (hc : 0 ≤ c ∧ c ≤ 3) (hm : 0 ≤ mode ∧ mode ≤ 6) (hb : Bad h l s) : Calls Tryz.prog 23 #[.agg #[.int .i64 h, .int .u64 l, .int .i64 s], .int .i64 c, .int .i64 mode] w fun e w' => e = .returned (.tuple #[.agg (mcl 0 0).toArray, .int .i64 3]) ∧ Below w.heap.size w w' := by
  have hw := wi_yes hc.1 hc.2
  have g1 : decide (mode < 0) = false := decide_eq_false (by omega)
  have g2 : decide (6 < mode) = false := decide_eq_false (by omega)
  have HB : Hid (Bad h l s) := hb
  clear hc hm hb
  have VD_0 := (show Hid _ from (va_new w ([.int .i64 h, .int .u64 l, .int .i64 s]) 41).alloc (.cells (mcl 0 0).toArray 23))
  have VR_0 := (show Hid _ from va_new (w.alloc (.cells ([.int .i64 h, .int .u64 l, .int .i64 s]).toArray 41)) (mcl 0 0) 23)
  rw [show (w.alloc (.cells ([.int .i64 h, .int .u64 l, .int .i64 s]).toArray 41)).heap.size = w.heap.size + 1 by simp] at VR_0
  have BB_0 := (show Hid _ from ((Below.refl w.heap.size w).alloc (Nat.le_refl _) (.cells ([.int .i64 h, .int .u64 l, .int .i64 s]).toArray 41)).alloc (by simp) (.cells (mcl 0 0).toArray 23))
  go_enter Tryz.func23, Tryz.ntmps23
  go_wp2_with fail
  refine (rcur_ok c _).mono ?_
  rintro e wx ⟨rfl, hq⟩
  obtain rfl := hq.symm
  rw [hw]
  go_wp2_with (refine ldA rfl 41 _ rfl w.heap.size (by rfl) [.int .i64 h, .int .u64 l, .int .i64 s] _ VD_0.out _ Tryz.underlying41 rfl infoD ?_)
  refine (form_no h l s _ HB.out).mono ?_
  rintro e w1 ⟨rfl, b1⟩
  have VD_1 := (show Hid _ from VD_0.out.step b1)
  have VR_1 := (show Hid _ from VR_0.out.step b1)
  have BB_1 := (show Hid _ from BB_0.out.trans (b1.mono BB_0.out.size))
  clear b1 VD_0 VR_0 BB_0
  go_wp2_with (refine stA rfl 23 _ _ rfl (w.heap.size + 1) (by rfl) (mcl 0 0) (mcl 0 0) (by rfl) 23 VR_1.out infoM rfl (mcl_one _ _) ?_; intro wf vf uf)
  have hld := run_loadVar_row (P := Tryz.prog) wf (w.heap.size + 1) 23 23 _ (0, 0) _ vf.blk Tryz.underlying23 rfl infoM
  exact bodyPost_ret (v := .tuple #[.agg (mcl 0 0).toArray, .int .i64 3]) (by simp [results, Tryz.results23, asAddr, hld]) rfl ⟨rfl, uf.bel BB_1.out (by omega)⟩
set_option maxRecDepth 100000 in
theorem mof_c (h l s c mode : Int) (w : World) (hc : ¬ (0 ≤ c ∧ c ≤ 3)) : Calls Tryz.prog 21 #[.agg #[.int .i64 h, .int .u64 l, .int .i64 s], .int .i64 c, .int .i64 mode] w fun e w' => e = .returned (.tuple #[.agg (mcl 0 0).toArray, .int .i64 1]) ∧ Below w.heap.size w w' := by
  have hw := wi_no hc
  clear hc
  have VD_0 := (show Hid _ from (va_new w ([.int .i64 h, .int .u64 l, .int .i64 s]) 41).alloc (.cells (mcl 0 0).toArray 23))
  have VR_0 := (show Hid _ from va_new (w.alloc (.cells ([.int .i64 h, .int .u64 l, .int .i64 s]).toArray 41)) (mcl 0 0) 23)
  rw [show (w.alloc (.cells ([.int .i64 h, .int .u64 l, .int .i64 s]).toArray 41)).heap.size = w.heap.size + 1 by simp] at VR_0
  have BB_0 := (show Hid _ from ((Below.refl w.heap.size w).alloc (Nat.le_refl _) (.cells ([.int .i64 h, .int .u64 l, .int .i64 s]).toArray 41)).alloc (by simp) (.cells (mcl 0 0).toArray 23))
  go_enter Tryz.func21, Tryz.ntmps21
  go_wp2_with fail
  refine (mcur_ok c _).mono ?_
  rintro e wx ⟨rfl, hq⟩
  obtain rfl := hq.symm
  rw [hw]
  go_wp2_with (refine stA rfl 23 _ _ rfl (w.heap.size + 1) (by rfl) (mcl 0 0) (mcl 0 0) (by rfl) 23 VR_0.out infoM rfl (mcl_one _ _) ?_; intro wf vf uf)
  have hld := run_loadVar_row (P := Tryz.prog) wf (w.heap.size + 1) 23 23 _ (0, 0) _ vf.blk Tryz.underlying23 rfl infoM
  exact bodyPost_ret (v := .tuple #[.agg (mcl 0 0).toArray, .int .i64 1]) (by simp [results, Tryz.results21, asAddr, hld]) rfl ⟨rfl, uf.bel BB_0.out (by omega)⟩
set_option maxHeartbeats 4000000 in
set_option maxRecDepth 100000 in
theorem mof_err (h l s mode E : Int) (i : Nat) (w : World) (T : Cu w) (hi : i < 4) (hE : E ≠ 0) (HR : ∀ w, Calls Tryz.prog 44 #[.agg #[.int .i64 h, .int .u64 l, .int .i64 s], .int .i64 (cdg i), .int .i64 mode] w fun e w' => e = .returned (.tuple #[.agg #[.int .i64 0, .int .u64 0, .int .i64 0], .int .i64 E]) ∧ Below w.heap.size w w') :
    Calls Tryz.prog 21 #[.agg #[.int .i64 h, .int .u64 l, .int .i64 s], .int .i64 i, .int .i64 mode] w fun e w' => e = .returned (.tuple #[.agg (mcl 0 0).toArray, .int .i64 E]) ∧ Below w.heap.size w w' := by
  have HRS := (show Hid _ from HR)
  have hne : (E != 0) = true := by rw [bne_iff_ne]; exact hE
  clear HR hE
  have VD_0 := (show Hid _ from (va_new w ([.int .i64 h, .int .u64 l, .int .i64 s]) 41).alloc (.cells (mcl 0 0).toArray 23))
  have VR_0 := (show Hid _ from va_new (w.alloc (.cells ([.int .i64 h, .int .u64 l, .int .i64 s]).toArray 41)) (mcl 0 0) 23)
  rw [show (w.alloc (.cells ([.int .i64 h, .int .u64 l, .int .i64 s]).toArray 41)).heap.size = w.heap.size + 1 by simp] at VR_0
  have BB_0 := (show Hid _ from ((Below.refl w.heap.size w).alloc (Nat.le_refl _) (.cells ([.int .i64 h, .int .u64 l, .int .i64 s]).toArray 41)).alloc (by simp) (.cells (mcl 0 0).toArray 23))
  have CU_0 := (show Hid _ from (T.alloc (.cells ([.int .i64 h, .int .u64 l, .int .i64 s] : List Value).toArray 41)).alloc (.cells (mcl 0 0).toArray 23))
  have hp : 0 < w.heap.size := T.lt
  have hw := wi_yes (n := (i : Int)) (l := 0) (g := 3) (by omega) (by omega)
  clear T
  go_enter Tryz.func21, Tryz.ntmps21
  go_wp2_with fail
  refine (mcur_ok i _).mono ?_
  rintro e w1 ⟨rfl, hq⟩
  obtain rfl := hq.symm
  rw [hw]
  clear hw
  go_upto_region 3 with fail
  change Code.wp _ _ _ _ (w.alloc (.cells ([.int .i64 h, .int .u64 l, .int .i64 s] : List Value).toArray 41) |>.alloc (.cells (mcl 0 0).toArray 23))
  generalize (w.alloc (.cells ([.int .i64 h, .int .u64 l, .int .i64 s] : List Value).toArray 41) |>.alloc (.cells (mcl 0 0).toArray 23)) = W at *
  refine wp_region_noPanic ?_
  refine wp_region_held_drew (S := fun w' => VA w' w.heap.size [.int .i64 h, .int .u64 l, .int .i64 s] 41 ∧ Cu w') (by kernel_rfl) ⟨VD_0.out.drew, CU_0.out.drew⟩ (fun hHeld => ?_)
  refine takeD 0 16 (.agg #[.int .i64 h, .int .u64 l, .int .i64 s]) (by exact rfl) rfl (by kernel_rfl) (by kernel_rfl) (by kernel_rfl) (fun _ _ _ h => h) (Or.inl ⟨by rfl, ?_⟩) (by assumption) ?_
  · intro wq hS
    have h0 := hS.1.cell 0 (v := .int .i64 h) rfl
    have h1 := hS.1.cell 1 (v := .int .u64 l) rfl
    have h2 := hS.1.cell 2 (v := .int .i64 s) rfl
    go_simp
  try simp only [Act.put, List.setIfInBounds_toArray, List.set_cons_zero, List.set_cons_succ]
  refine takeD 1 17 (.int .i64 (i : Int)) (by exact rfl) rfl (by kernel_rfl) (by kernel_rfl) (by kernel_rfl) (fun _ _ _ h => h) (Or.inl ⟨by rfl, ?_⟩) (by assumption) ?_
  · intro wq hS
    go_simp
  try simp only [Act.put, List.setIfInBounds_toArray, List.set_cons_zero, List.set_cons_succ]
  refine takeD 2 18 (.pointer (some ⟨0, i * 2, none⟩)) (by exact rfl) rfl (by kernel_rfl) (by kernel_rfl) (by kernel_rfl) (fun _ _ _ h => h) (Or.inl ⟨by rfl, ?_⟩) (by assumption) ?_
  · intro wq hS
    go_simp
    intro h; omega
  try simp only [Act.put, List.setIfInBounds_toArray, List.set_cons_zero, List.set_cons_succ]
  refine takeD 3 19 (.pointer (some ⟨0, i * 2 + 1, none⟩)) (by exact rfl) rfl (by kernel_rfl) (by kernel_rfl) (by kernel_rfl) (fun _ _ _ h => h) (Or.inl ⟨by rfl, ?_⟩) (by assumption) ?_
  · intro wq hS
    go_simp
  try simp only [Act.put, List.setIfInBounds_toArray, List.set_cons_zero, List.set_cons_succ]
  refine takeD 4 20 (.int .i64 (cdg i : Int)) (by exact rfl) rfl (by kernel_rfl) (by kernel_rfl) (by kernel_rfl) (fun _ _ _ h => h) (Or.inl ⟨by rfl, ?_⟩) (by assumption) ?_
  · intro wq hS
    have h1 := hS.2.row i hi
    go_simp
  try simp only [Act.put, List.setIfInBounds_toArray, List.set_cons_zero, List.set_cons_succ]
  refine takeD 5 21 (.int .i64 mode) (by exact rfl) rfl (by kernel_rfl) (by kernel_rfl) (by kernel_rfl) (fun _ _ _ h => h) (Or.inl ⟨by rfl, ?_⟩) (by assumption) ?_
  · intro wq hS
    go_simp
  try simp only [Act.put, List.setIfInBounds_toArray, List.set_cons_zero, List.set_cons_succ]
  clear hHeld
  have VD_z := (show Hid _ from VD_0.out.drew)
  have VR_z := (show Hid _ from VR_0.out.drew)
  have CU_z := (show Hid _ from CU_0.out.drew)
  have BB_z := (show Hid _ from BB_0.out.drew)
  clear VD_0 VR_0 CU_0 BB_0
  generalize W.drew = wz at *
  refine wpAnyH_ready (rs := [6, 10]) (by kernel_rfl) (by simp) ?_
  refine AllReadyH.cons (by exact rfl) (fun K hK => ?_) (AllReadyH.cons (by exact rfl) (fun K hK => ?_) AllReadyH.nil)
  · go_simp
    refine (HRS.out _).mono ?_
    rintro e w1 ⟨rfl, b1⟩
    have VD_1 := (show Hid _ from VD_z.out.step b1)
    have VR_1 := (show Hid _ from VR_z.out.step b1)
    have CU_1 := (show Hid _ from CU_z.out.step b1)
    have BB_1 := (show Hid _ from BB_z.out.trans (b1.mono BB_z.out.size))
    clear b1
    go_wp2_with fail
    refine hK.out _ _ (⟨VD_1.out, CU_1.out⟩) (fun hHeld => ?_)
    try simp only [Act.put, List.setIfInBounds_toArray, List.set_cons_zero, List.set_cons_succ]
    clear hK K
    clear VD_z VR_z CU_z BB_z
    refine takeD 7 15 (.tuple #[.agg #[.int .i64 0, .int .u64 0, .int .i64 0], .int .i64 E]) (by exact rfl) rfl (by kernel_rfl) (by kernel_rfl) (by kernel_rfl) (fun _ _ _ h => h) (Or.inl ⟨by rfl, ?_⟩) (by assumption) ?_
    · intro wq hS
      go_simp
    try simp only [Act.put, List.setIfInBounds_toArray, List.set_cons_zero, List.set_cons_succ]
    refine takeD 8 23 (.agg zdl.toArray) (by exact rfl) rfl (by kernel_rfl) (by kernel_rfl) (by kernel_rfl) (fun _ _ _ h => h) (Or.inl ⟨by rfl, ?_⟩) (by assumption) ?_
    · intro wq hS
      go_simp
      rfl
    try simp only [Act.put, List.setIfInBounds_toArray, List.set_cons_zero, List.set_cons_succ]
    refine takeD 9 24 (.int .i64 E) (by exact rfl) rfl (by kernel_rfl) (by kernel_rfl) (by kernel_rfl) (fun _ _ _ h => h) (Or.inl ⟨by rfl, ?_⟩) (by assumption) ?_
    · intro wq hS
      go_simp
    try simp only [Act.put, List.setIfInBounds_toArray, List.set_cons_zero, List.set_cons_succ]
    clear hHeld
    refine wpAnyH_ready (rs := [10]) (by kernel_rfl) (by simp) ?_
    refine AllReadyH.cons (by exact rfl) (fun K hK => ?_) AllReadyH.nil
    go_simp
    have VD_2 := (show Hid _ from VD_1.out.alloc (.cells zdl.toArray 41))
    have VR_2 := (show Hid _ from VR_1.out.alloc (.cells zdl.toArray 41))
    have CU_2 := (show Hid _ from CU_1.out.alloc (.cells zdl.toArray 41))
    have BB_2 := (show Hid _ from BB_1.out.alloc BB_1.out.size (.cells zdl.toArray 41))
    have XV_2 := (show Hid _ from va_new w1 zdl 41)
    have HQ : Hid (w.heap.size + 1 < w1.heap.size) := VR_1.out.lt
    refine hK.out _ _ ⟨VD_2.out, CU_2.out⟩ (fun hHeld => ?_)
    try simp only [Act.put, List.setIfInBounds_toArray, List.set_cons_zero, List.set_cons_succ]
    clear hK K hHeld VD_1 VR_1 CU_1 BB_1
    change wpAnyH _ _ _ _ _ _ _ _ (w1.alloc (.cells zdl.toArray 41))
    generalize w1.alloc (.cells zdl.toArray 41) = w2 at *
    generalize w1.heap.size = q at *
    refine wpAnyH_ready (rs := [11]) (by kernel_rfl) (by simp) ?_
    refine AllReadyH.cons (by exact rfl) (fun K hK => ?_) AllReadyH.nil
    refine stAn (by rfl) (by rfl) 41 _ _ (by rfl) q (by rfl) zdl zdl (by rfl) 41 XV_2.out infoD rfl (by decide) ?_
    intro w9 v9 u9
    have VD_9 := (show Hid _ from VD_2.out.upd u9 (by have := HQ.out; omega))
    have CU_9 := (show Hid _ from CU_2.out.upd u9 (by have := HQ.out; omega))
    refine hK.out _ _ ⟨VD_9.out, CU_9.out⟩ (fun hHeld => ?_)
    clear hK K
    refine takeD 12 9 (.int .i64 E) (by exact rfl) rfl (by kernel_rfl) (by kernel_rfl) (by kernel_rfl) (fun _ _ _ h => h) (Or.inl ⟨by rfl, ?_⟩) (by assumption) ?_
    · intro wq hS
      go_simp
    try simp only [Act.put, List.setIfInBounds_toArray, List.set_cons_zero, List.set_cons_succ]
    clear hHeld
    refine wpAnyH_done (by kernel_rfl) ?_ _
    refine NoPanic.normal ?_
    have VR_9 := (show Hid _ from VR_2.out.upd u9 (by have := HQ.out; omega))
    have BB_9 := (show Hid _ from u9.bel BB_2.out (by have := HQ.out; omega))
    clear v9 u9 VD_2 CU_2 VR_2 BB_2 XV_2 VD_9 CU_9
    go_wp2_with (refine stA rfl 23 _ _ rfl (w.heap.size + 1) (by rfl) (mcl 0 0) (mcl 0 0) (by rfl) 23 VR_9.out infoM rfl (mcl_one _ _) ?_; intro wf vf uf)
    have hld := run_loadVar_row (P := Tryz.prog) wf (w.heap.size + 1) 23 23 _ (0, 0) _ vf.blk Tryz.underlying23 rfl infoM
    exact bodyPost_ret (v := .tuple #[.agg (mcl 0 0).toArray, .int .i64 E]) (by simp [results, Tryz.results21, asAddr, hld]) rfl ⟨rfl, uf.bel BB_9.out (by omega)⟩
  · go_simp
    have VD_1 := (show Hid _ from VD_z.out.alloc (.cells zdl.toArray 41))
    have VR_1 := (show Hid _ from VR_z.out.alloc (.cells zdl.toArray 41))
    have CU_1 := (show Hid _ from CU_z.out.alloc (.cells zdl.toArray 41))
    have BB_1 := (show Hid _ from BB_z.out.alloc BB_z.out.size (.cells zdl.toArray 41))
    have XV_1 := (show Hid _ from va_new wz zdl 41)
    have HQ : Hid (w.heap.size + 1 < wz.heap.size) := VR_z.out.lt
    refine hK.out _ _ ⟨VD_1.out, CU_1.out⟩ (fun hHeld => ?_)
    try simp only [Act.put, List.setIfInBounds_toArray, List.set_cons_zero, List.set_cons_succ]
    clear hK K hHeld VD_z VR_z CU_z BB_z
    change wpAnyH _ _ _ _ _ _ _ _ (wz.alloc (.cells zdl.toArray 41))
    generalize wz.alloc (.cells zdl.toArray 41) = w1 at *
    generalize wz.heap.size = q at *
    refine wpAnyH_ready (rs := [6]) (by kernel_rfl) (by simp) ?_
    refine AllReadyH.cons (by exact rfl) (fun K hK => ?_) AllReadyH.nil
    go_simp
    refine (HRS.out _).mono ?_
    rintro e w2 ⟨rfl, b2⟩
    have VD_2 := (show Hid _ from VD_1.out.step b2)
    have VR_2 := (show Hid _ from VR_1.out.step b2)
    have CU_2 := (show Hid _ from CU_1.out.step b2)
    have XV_2 := (show Hid _ from XV_1.out.step b2)
    have BB_2 := (show Hid _ from BB_1.out.trans (b2.mono BB_1.out.size))
    clear b2
    go_wp2_with fail
    refine hK.out _ _ (⟨VD_2.out, CU_2.out⟩) (fun hHeld => ?_)
    try simp only [Act.put, List.setIfInBounds_toArray, List.set_cons_zero, List.set_cons_succ]
    clear hK K
    clear VD_1 VR_1 CU_1 BB_1 XV_1
    refine takeD 7 15 (.tuple #[.agg #[.int .i64 0, .int .u64 0, .int .i64 0], .int .i64 E]) (by exact rfl) rfl (by kernel_rfl) (by kernel_rfl) (by kernel_rfl) (fun _ _ _ h => h) (Or.inl ⟨by rfl, ?_⟩) (by assumption) ?_
    · intro wq hS
      go_simp
    try simp only [Act.put, List.setIfInBounds_toArray, List.set_cons_zero, List.set_cons_succ]
    refine takeD 8 23 (.agg zdl.toArray) (by exact rfl) rfl (by kernel_rfl) (by kernel_rfl) (by kernel_rfl) (fun _ _ _ h => h) (Or.inl ⟨by rfl, ?_⟩) (by assumption) ?_
    · intro wq hS
      go_simp
      rfl
    try simp only [Act.put, List.setIfInBounds_toArray, List.set_cons_zero, List.set_cons_succ]
    refine takeD 9 24 (.int .i64 E) (by exact rfl) rfl (by kernel_rfl) (by kernel_rfl) (by kernel_rfl) (fun _ _ _ h => h) (Or.inl ⟨by rfl, ?_⟩) (by assumption) ?_
    · intro wq hS
      go_simp
    try simp only [Act.put, List.setIfInBounds_toArray, List.set_cons_zero, List.set_cons_succ]
    clear hHeld
    refine wpAnyH_ready (rs := [11]) (by kernel_rfl) (by simp) ?_
    refine AllReadyH.cons (by exact rfl) (fun K hK => ?_) AllReadyH.nil
    refine stAn (by rfl) (by rfl) 41 _ _ (by rfl) q (by rfl) zdl zdl (by rfl) 41 XV_2.out infoD rfl (by decide) ?_
    intro w9 v9 u9
    have VD_9 := (show Hid _ from VD_2.out.upd u9 (by have := HQ.out; omega))
    have CU_9 := (show Hid _ from CU_2.out.upd u9 (by have := HQ.out; omega))
    refine hK.out _ _ ⟨VD_9.out, CU_9.out⟩ (fun hHeld => ?_)
    clear hK K
    refine takeD 12 9 (.int .i64 E) (by exact rfl) rfl (by kernel_rfl) (by kernel_rfl) (by kernel_rfl) (fun _ _ _ h => h) (Or.inl ⟨by rfl, ?_⟩) (by assumption) ?_
    · intro wq hS
      go_simp
    try simp only [Act.put, List.setIfInBounds_toArray, List.set_cons_zero, List.set_cons_succ]
    clear hHeld
    refine wpAnyH_done (by kernel_rfl) ?_ _
    refine NoPanic.normal ?_
    have VR_9 := (show Hid _ from VR_2.out.upd u9 (by have := HQ.out; omega))
    have BB_9 := (show Hid _ from u9.bel BB_2.out (by have := HQ.out; omega))
    clear v9 u9 VD_2 CU_2 VR_2 BB_2 XV_2 VD_9 CU_9
    go_wp2_with (refine stA rfl 23 _ _ rfl (w.heap.size + 1) (by rfl) (mcl 0 0) (mcl 0 0) (by rfl) 23 VR_9.out infoM rfl (mcl_one _ _) ?_; intro wf vf uf)
    have hld := run_loadVar_row (P := Tryz.prog) wf (w.heap.size + 1) 23 23 _ (0, 0) _ vf.blk Tryz.underlying23 rfl infoM
    exact bodyPost_ret (v := .tuple #[.agg (mcl 0 0).toArray, .int .i64 E]) (by simp [results, Tryz.results21, asAddr, hld]) rfl ⟨rfl, uf.bel BB_9.out (by omega)⟩
end Go.Proofs.YteohncnjjgoemaaGreatDoor
/- money: To beside the document's; the walk of MoneyDecimals. -/
namespace Go.Proofs.YteohncnjjgoemaaGreatDoor
open Go.RowKit
set_option linter.unusedVariables false

set_option maxRecDepth 100000 in
theorem to_no (c n : Int) (w : World) (h : mform c n = false) : Calls Tryz.prog 11 #[.agg (mcl c n).toArray] w fun e w' => e = .returned (.tuple #[.agg zdl.toArray, .int .i64 3]) ∧ Below w.heap.size w w' := by
  have VM_0 := (show Hid _ from (va_new w (mcl c n) 23).alloc (.cells zdl.toArray 41))
  have VR_0 := (show Hid _ from va_new (w.alloc (.cells (mcl c n).toArray 23)) zdl 41)
  rw [show (w.alloc (.cells (mcl c n).toArray 23)).heap.size = w.heap.size + 1 by simp] at VR_0
  have BB_0 := (show Hid _ from ((Below.refl w.heap.size w).alloc (Nat.le_refl _) (.cells (mcl c n).toArray 23)).alloc (by simp) (.cells zdl.toArray 41))
  go_enter Tryz.func11, Tryz.ntmps11
  go_wp2_with (refine ldA rfl 23 _ rfl w.heap.size (by rfl) (mcl c n) _ VM_0.out _ Tryz.underlying23 rfl infoM ?_)
  refine (chk_no c n _ h).mono ?_
  rintro e w1 ⟨rfl, b1⟩
  have VM_1 := (show Hid _ from VM_0.out.step b1)
  have VR_1 := (show Hid _ from VR_0.out.step b1)
  have BB_1 := (show Hid _ from BB_0.out.trans (b1.mono BB_0.out.size))
  clear b1 VM_0 VR_0 BB_0
  go_wp2_with (refine stA rfl 41 _ _ rfl (w.heap.size + 1) (by rfl) zdl zdl (by rfl) 41 VR_1.out infoD rfl (by decide) ?_; intro wf vf uf)
  have hld := run_loadVar_row (P := Tryz.prog) wf (w.heap.size + 1) 41 41 _ (0, 0) _ vf.blk Tryz.underlying41 rfl infoD
  exact bodyPost_ret (v := .tuple #[.agg (zdl).toArray, .int .i64 3]) (by simp [results, Tryz.results11, asAddr, hld]) rfl ⟨rfl, uf.bel BB_1.out (by omega)⟩
set_option maxRecDepth 100000 in
theorem dto_no (c n : Int) (w : World) (h : mform c n = false) : Calls Tryz.prog 15 #[.agg (mcl c n).toArray] w fun e w' => e = .returned (.tuple #[.agg zdl.toArray, .int .i64 3]) ∧ Below w.heap.size w w' := by
  have VM_0 := (show Hid _ from (va_new w (mcl c n) 23).alloc (.cells zdl.toArray 41))
  have VR_0 := (show Hid _ from va_new (w.alloc (.cells (mcl c n).toArray 23)) zdl 41)
  rw [show (w.alloc (.cells (mcl c n).toArray 23)).heap.size = w.heap.size + 1 by simp] at VR_0
  have BB_0 := (show Hid _ from ((Below.refl w.heap.size w).alloc (Nat.le_refl _) (.cells (mcl c n).toArray 23)).alloc (by simp) (.cells zdl.toArray 41))
  go_enter Tryz.func15, Tryz.ntmps15
  go_wp2_with (refine ldA rfl 23 _ rfl w.heap.size (by rfl) (mcl c n) _ VM_0.out _ Tryz.underlying23 rfl infoM ?_)
  refine (rform_ok c n _).mono ?_
  rintro e w1 ⟨rfl, b1⟩
  have VM_1 := (show Hid _ from VM_0.out.step b1)
  have VR_1 := (show Hid _ from VR_0.out.step b1)
  have BB_1 := (show Hid _ from BB_0.out.trans (b1.mono BB_0.out.size))
  clear b1 VM_0 VR_0 BB_0
  rw [h]
  go_wp2_with (refine stA rfl 41 _ _ rfl (w.heap.size + 1) (by rfl) zdl zdl (by rfl) 41 VR_1.out infoD rfl (by decide) ?_; intro wf vf uf)
  have hld := run_loadVar_row (P := Tryz.prog) wf (w.heap.size + 1) 41 41 _ (0, 0) _ vf.blk Tryz.underlying41 rfl infoD
  exact bodyPost_ret (v := .tuple #[.agg (zdl).toArray, .int .i64 3]) (by simp [results, Tryz.results15, asAddr, hld]) rfl ⟨rfl, uf.bel BB_1.out (by omega)⟩
set_option maxHeartbeats 4000000 in
set_option maxRecDepth 100000 in
theorem dto_ok (i : Nat) (n : Int) (w : World) (hi : i < 4) (hn : -10000000000000 ≤ n ∧ n ≤ 10000000000000) :
    Calls Tryz.prog 15 #[.agg (mcl i n).toArray] w fun e w' => e = .returned (.tuple #[.agg (dcs n (cdg i)).toArray, .int .i64 0]) ∧ Below w.heap.size w w' := by
  have hm : mform i n = true := by unfold mform; rw [wi_yes (by omega) (by omega), wi_yes hn.1 hn.2]; rfl
  have HN := (show Hid _ from hn)
  clear hn
  have VM_0 := (show Hid _ from (va_new w (mcl i n) 23).alloc (.cells zdl.toArray 41))
  have VR_0 := (show Hid _ from va_new (w.alloc (.cells (mcl i n).toArray 23)) zdl 41)
  rw [show (w.alloc (.cells (mcl i n).toArray 23)).heap.size = w.heap.size + 1 by simp] at VR_0
  have BB_0 := (show Hid _ from ((Below.refl w.heap.size w).alloc (Nat.le_refl _) (.cells (mcl i n).toArray 23)).alloc (by simp) (.cells zdl.toArray 41))
  go_enter Tryz.func15, Tryz.ntmps15
  go_wp2_with (refine ldA rfl 23 _ rfl w.heap.size (by rfl) (mcl i n) _ VM_0.out _ Tryz.underlying23 rfl infoM ?_)
  refine (rform_ok i n _).mono ?_
  rintro e w1 ⟨rfl, b1⟩
  have VM_1 := (show Hid _ from VM_0.out.step b1)
  have VR_1 := (show Hid _ from VR_0.out.step b1)
  have BB_1 := (show Hid _ from BB_0.out.trans (b1.mono BB_0.out.size))
  clear b1 VM_0 VR_0 BB_0
  rw [hm]
  clear hm
  go_upto_region 3 with fail
  refine wp_region_noPanic ?_
  refine wp_region_held_drew (S := fun w' => VA w' w.heap.size (mcl i n) 23 ∧ True) (by kernel_rfl) ⟨VM_1.out.drew, True.intro⟩ (fun hHeld => ?_)
  refine takeD 0 8 (.pointer (some ⟨w.heap.size, 1, none⟩)) (by exact rfl) rfl (by kernel_rfl) (by kernel_rfl) (by kernel_rfl) (fun _ _ _ h => h) (Or.inl ⟨by rfl, ?_⟩) (by assumption) ?_
  · intro wq hS
    go_simp
  try simp only [Act.put, List.setIfInBounds_toArray, List.set_cons_zero, List.set_cons_succ]
  refine takeD 1 9 (.int .i64 n) (by exact rfl) rfl (by kernel_rfl) (by kernel_rfl) (by kernel_rfl) (fun _ _ _ h => h) (Or.inl ⟨by rfl, ?_⟩) (by assumption) ?_
  · intro wq hS
    have h1 := hS.1.cell 1 (v := .int .i64 n) rfl
    go_simp
  try simp only [Act.put, List.setIfInBounds_toArray, List.set_cons_zero, List.set_cons_succ]
  refine takeD 3 11 (.pointer (some ⟨w.heap.size, 0, none⟩)) (by exact rfl) rfl (by kernel_rfl) (by kernel_rfl) (by kernel_rfl) (fun _ _ _ h => h) (Or.inl ⟨by rfl, ?_⟩) (by assumption) ?_
  · intro wq hS
    go_simp
  try simp only [Act.put, List.setIfInBounds_toArray, List.set_cons_zero, List.set_cons_succ]
  refine takeD 4 12 (.int .i64 (i : Int)) (by exact rfl) rfl (by kernel_rfl) (by kernel_rfl) (by kernel_rfl) (fun _ _ _ h => h) (Or.inl ⟨by rfl, ?_⟩) (by assumption) ?_
  · intro wq hS
    have h1 := hS.1.cell 0 (v := .int .i64 (i : Int)) rfl
    go_simp
  try simp only [Act.put, List.setIfInBounds_toArray, List.set_cons_zero, List.set_cons_succ]
  clear hHeld
  have VM_z := (show Hid _ from VM_1.out.drew)
  have VR_z := (show Hid _ from VR_1.out.drew)
  have BB_z := (show Hid _ from BB_1.out.drew)
  clear VM_1 VR_1 BB_1
  generalize w1.drew = wz at *
  refine wpAnyH_ready (rs := [2]) (by kernel_rfl) (by simp) ?_
  refine AllReadyH.cons (by exact rfl) (fun K hK => ?_) AllReadyH.nil
  go_simp
  refine (made_in n _ (by have := HN.out; omega) (by have := HN.out; omega)).mono ?_
  rintro e w2 ⟨⟨v1, rfl, j1⟩, b2⟩
  have VM_2 := (show Hid _ from VM_z.out.step b2)
  have VR_2 := (show Hid _ from VR_z.out.step b2)
  have BB_2 := (show Hid _ from BB_z.out.trans (b2.mono BB_z.out.size))
  have J_2 := (show Hid _ from j1)
  clear b2 j1 VM_z VR_z BB_z
  go_wp2_with fail
  refine hK.out _ _ ⟨VM_2.out, True.intro⟩ (fun hHeld => ?_)
  try simp only [Act.put, List.setIfInBounds_toArray, List.set_cons_zero, List.set_cons_succ]
  clear hK K hHeld
  refine wpAnyH_ready (rs := [5]) (by kernel_rfl) (by simp) ?_
  refine AllReadyH.cons (by exact rfl) (fun K hK => ?_) AllReadyH.nil
  go_simp
  refine (rdigits_ok i _ hi).mono ?_
  rintro e wx ⟨rfl, hq⟩
  obtain rfl := hq.symm
  go_wp2_with fail
  refine hK.out _ _ ⟨VM_2.out, True.intro⟩ (fun hHeld => ?_)
  try simp only [Act.put, List.setIfInBounds_toArray, List.set_cons_zero, List.set_cons_succ]
  clear hK K hHeld
  refine wpAnyH_ready (rs := [6]) (by kernel_rfl) (by simp) ?_
  refine AllReadyH.cons (by exact rfl) (fun K hK => ?_) AllReadyH.nil
  go_simp
  refine (decr_ok v1 n (cdg i) _ J_2.out (i64_in (by have := HN.out; omega) (by have := HN.out; omega))).mono ?_
  rintro e w3 ⟨rfl, b3⟩
  have VM_3 := (show Hid _ from VM_2.out.step b3)
  have VR_3 := (show Hid _ from VR_2.out.step b3)
  have BB_3 := (show Hid _ from BB_2.out.trans (b3.mono BB_2.out.size))
  clear b3
  go_wp2_with fail
  refine hK.out _ _ (⟨VM_3.out, True.intro⟩) (fun hHeld => ?_)
  try simp only [Act.put, List.setIfInBounds_toArray, List.set_cons_zero, List.set_cons_succ]
  clear hK K
  clear VM_2 VR_2 BB_2 J_2
  refine takeD 7 15 (.agg (dcs n (cdg i)).toArray) (by exact rfl) rfl (by kernel_rfl) (by kernel_rfl) (by kernel_rfl) (fun _ _ _ h => h) (Or.inl ⟨by rfl, ?_⟩) (by assumption) ?_
  · intro wq hS
    go_simp
    rfl
  try simp only [Act.put, List.setIfInBounds_toArray, List.set_cons_zero, List.set_cons_succ]
  refine takeD 8 16 (.int .i64 0) (by exact rfl) rfl (by kernel_rfl) (by kernel_rfl) (by kernel_rfl) (fun _ _ _ h => h) (Or.inl ⟨by rfl, ?_⟩) (by assumption) ?_
  · intro wq hS
    go_simp
  try simp only [Act.put, List.setIfInBounds_toArray, List.set_cons_zero, List.set_cons_succ]
  clear hHeld
  refine wpAnyH_ready (rs := [9]) (by kernel_rfl) (by simp) ?_
  refine AllReadyH.cons (by exact rfl) (fun K hK => ?_) AllReadyH.nil
  refine stAn (by rfl) (by rfl) 41 _ _ (by rfl) (w.heap.size + 1) (by rfl) zdl (dcs n (cdg i)) (by rfl) 41 VR_3.out infoD rfl (dcs_one _ _) ?_
  intro wf vf uf
  refine hK.out _ _ ⟨VM_3.out.upd uf (by omega), True.intro⟩ (fun hHeld => ?_)
  clear hK K
  refine takeD 10 3 (.int .i64 0) (by exact rfl) rfl (by kernel_rfl) (by kernel_rfl) (by kernel_rfl) (fun _ _ _ h => h) (Or.inl ⟨by rfl, ?_⟩) (by assumption) ?_
  · intro wq hS
    go_simp
  try simp only [Act.put, List.setIfInBounds_toArray, List.set_cons_zero, List.set_cons_succ]
  clear hHeld
  refine wpAnyH_done (by kernel_rfl) ?_ _
  refine NoPanic.normal ?_
  go_wp2_with fail
  have hld := run_loadVar_row (P := Tryz.prog) wf (w.heap.size + 1) 41 41 _ (0, 0) _ vf.blk Tryz.underlying41 rfl infoD
  exact bodyPost_ret (v := .tuple #[.agg (dcs n (cdg i)).toArray, .int .i64 0]) (by simp [results, Tryz.results15, asAddr, hld]) rfl ⟨rfl, uf.bel BB_3.out (by omega)⟩
theorem of_both (h l s c mode : Int) (wh : (Lit.int .i64 h).wf = true) (wl : (Lit.int .u64 l).wf = true) : ∃ mc mn e : Int,
    (∀ w, Cu w → Calls Tryz.prog 21 #[.agg #[.int .i64 h, .int .u64 l, .int .i64 s], .int .i64 c, .int .i64 mode] w fun r w' => r = .returned (.tuple #[.agg #[.int .i64 mc, .int .i64 mn], .int .i64 e]) ∧ Below w.heap.size w w') ∧
    (∀ w, Calls Tryz.prog 23 #[.agg #[.int .i64 h, .int .u64 l, .int .i64 s], .int .i64 c, .int .i64 mode] w fun r w' => r = .returned (.tuple #[.agg #[.int .i64 mc, .int .i64 mn], .int .i64 e]) ∧ Below w.heap.size w w') := by
  by_cases hc : 0 ≤ c ∧ c ≤ 3
  · obtain ⟨i, rfl⟩ := Int.eq_ofNat_of_zero_le hc.1
    have hi : i < 4 := by omega
    have hd := cdg_le i
    by_cases hm : 0 ≤ mode ∧ mode ≤ 6
    · obtain ⟨md, rfl⟩ := Int.eq_ofNat_of_zero_le hm.1
      rcases form_cases h l s wh wl with hb | ⟨cc, sn, rfl, rfl, rfl, ic, hs⟩
      · exact ⟨0, 0, 3, fun w T => mof_err h l s md 3 i w T hi (by decide) (fun w => rescale_form h l s (cdg i) md w (by omega) (by omega) (by omega) hb), fun w => dof_f h l s i md w hc hm hb⟩
      · by_cases hr : -10000000000000 ≤ rv cc sn (cdg i) md ∧ rv cc sn (cdg i) md ≤ 10000000000000
        · exact ⟨i, rv cc sn (cdg i) md, 0, fun w T => MOf_yes cc sn i md _ w T ic hs hi (by omega) rfl (by constructor <;> (rw [M127_eq]; omega)) hr, fun w => dof_yes cc sn i md _ w ic hs hi (by omega) rfl hr⟩
        · refine ⟨0, 0, 4, fun w T => ?_, fun w => ?_⟩
          · by_cases iR : InR (rv cc sn (cdg i) md)
            · exact MOf_no cc sn i md _ w T ic hs hi (by omega) rfl iR hr
            · exact mof_err _ _ _ md 4 i w T hi (by decide) (fun w => rescale_no cc sn (cdg i) md w ic hs (by omega) (by omega) iR)
          · by_cases h64 : -9223372036854775808 ≤ rv cc sn (cdg i) md ∧ rv cc sn (cdg i) md ≤ 9223372036854775807
            · exact dof_big cc sn i md _ w ic hs hi (by omega) rfl hr h64
            · exact dof_far cc sn i md _ w ic hs hi (by omega) rfl h64
    · refine ⟨0, 0, 1, fun w T => mof_err h l s mode 1 i w T hi (by decide) (fun w => rescale_arg h l s (cdg i) mode w (Or.inr (by omega))), fun w => ?_⟩
      by_cases h0 : mode < 0
      · exact dof_m1 h l s i mode w hc h0
      · exact dof_m2 h l s i mode w hc (by omega)
  · exact ⟨0, 0, 1, fun w T => mof_c h l s c mode w hc, fun w => dof_c h l s c mode w hc⟩
theorem rv_same (n : Int) (s mode : Nat) : rv n s s mode = n := by
  unfold rv rquo rnum rden away
  rw [show ((s : Int) - s) = 0 by omega]
  simp [Nat.mod_one]
  exact sv_abs n
theorem eqD (w : World) (a b c : Int) : (Op.equalIn 10000 41 (.agg #[.int .i64 a, .int .u64 b, .int .i64 c]) (.agg #[.int .i64 a, .int .u64 b, .int .i64 c])).run Tryz.prog w = .ok true w := by
  go_simp
theorem eqM1 (w : World) (a b : Int) : (Op.equalIn 10000 23 (.agg #[.int .i64 a, .int .i64 b]) (.agg #[.int .i64 a, .int .i64 b])).run Tryz.prog w = .ok true w := by
  go_simp
end Go.Proofs.YteohncnjjgoemaaGreatDoor
