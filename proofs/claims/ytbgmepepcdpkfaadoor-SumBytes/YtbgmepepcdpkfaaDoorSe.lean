/- sum: the contract of schedule. -/
import Derived.Test.YtbgmepepcdpkfaaDoorSd
namespace Go.Proofs.YtbgmepepcdpkfaaDoor
open Go.RowKit
set_option linter.unusedVariables false

theorem bs_from {w : World} {b off L c : Nat} {bs : List Nat} (h : Bs w (.slice (some ⟨b, off, none⟩) L c) bs) (k : Nat) (hk : k < L) : Bs w (.slice (some ⟨b, off + k, none⟩) (L - k) (c - k)) (bs.drop k) := by
  obtain ⟨hby, a', c', e, h1, h2, h3, h4⟩ := h
  cases e
  have hl : (bs.drop k).length = bs.length - k := by simp
  refine ⟨hby.drop k, some ⟨b, off + k, none⟩, c - k, by rw [hl], by omega, by omega, fun h => (by cases h), fun h0 => ?_⟩
  obtain ⟨b', off', e, hb, hx⟩ := h4 (by omega)
  cases e
  exact ⟨b, off + k, rfl, hb, fun j hj => by rw [bt_drop, Nat.add_assoc]; exact hx (k + j) (by omega)⟩
def wdAt (bs : List Nat) (k : Nat) : Nat := wd4 (bs.getD (4 * k) 0) (bs.getD (4 * k + 1) 0) (bs.getD (4 * k + 2) 0) (bs.getD (4 * k + 3) 0)
def fw (bs : List Nat) : Nat → List Nat
  | 0 => List.replicate 64 0
  | k + 1 => (fw bs k).set k (wdAt bs k)
def s0 (x : Nat) : Nat := rot x 7 ^^^ rot x 18 ^^^ x / 8
def s1 (y : Nat) : Nat := rot y 17 ^^^ rot y 19 ^^^ y / 1024
def nextW (xs : List Nat) (i : Nat) : Nat := (xs.getD (i - 16) 0 + s0 (xs.getD (i - 15) 0) + xs.getD (i - 7) 0 + s1 (xs.getD (i - 2) 0)) % 4294967296
def sch (xs : List Nat) : Nat → List Nat
  | 0 => xs
  | k + 1 => (sch xs k).set (16 + k) (nextW (sch xs k) (16 + k))
def sched (bs : List Nat) : List Nat := sch (fw bs 16) 48
theorem fw_len (bs : List Nat) : ∀ k, (fw bs k).length = 64
  | 0 => by simp [fw]
  | k + 1 => by simp [fw, fw_len bs k]
theorem sch_len (xs : List Nat) (h : xs.length = 64) : ∀ k, (sch xs k).length = 64
  | 0 => h
  | k + 1 => by simp [sch, sch_len xs h k]
theorem mem_set_small {xs : List Nat} {k d : Nat} (h : ∀ x ∈ xs, x < 4294967296) (hd : d < 4294967296) : ∀ x ∈ xs.set k d, x < 4294967296 := fun x hx => by
  rcases List.mem_or_eq_of_mem_set hx with hx | rfl
  · exact h x hx
  · exact hd
theorem by_getD {bs : List Nat} (h : By bs) (k : Nat) : bs.getD k 0 < 256 := by
  have := bt_bd h k
  unfold bt at this
  omega
theorem wdAt_lt {bs : List Nat} (h : By bs) (k : Nat) : wdAt bs k < 4294967296 := wd4_lt (by_getD h _) (by_getD h _) (by_getD h _) (by_getD h _)
theorem fw_small {bs : List Nat} (h : By bs) : ∀ k, ∀ x ∈ fw bs k, x < 4294967296
  | 0 => fun x hx => by simp [fw] at hx; omega
  | k + 1 => mem_set_small (fw_small h k) (wdAt_lt h k)
theorem nextW_lt (xs : List Nat) (i : Nat) : nextW xs i < 4294967296 := Nat.mod_lt _ (by omega)
theorem sch_small {xs : List Nat} (h : ∀ x ∈ xs, x < 4294967296) : ∀ k, ∀ x ∈ sch xs k, x < 4294967296
  | 0 => h
  | k + 1 => mem_set_small (sch_small h k) (nextW_lt _ _)
theorem sched_len (bs : List Nat) : (sched bs).length = 64 := sch_len _ (fw_len bs 16) 48
theorem sched_small {bs : List Nat} (h : By bs) : ∀ x ∈ sched bs, x < 4294967296 := sch_small (fw_small h 16) 48
theorem drop_getD (bs : List Nat) (n k : Nat) : (bs.drop n).getD k 0 = bs.getD (n + k) 0 := by simp [List.getD]
theorem cell_sc {w : World} {p i j : Nat} {u : Value} (h : i ≠ j) : (w.setCell ⟨p, i, none⟩ u).cell? ⟨p, j, none⟩ = w.cell? ⟨p, j, none⟩ := World.cell?_setCell_other _ _ _ _ (by intro e; simp only [Addr.mk.injEq] at e; omega)
theorem info33 : (Tryd.prog.info? 33).map (·.size) = some 64 := by kernel_rfl
set_option maxHeartbeats 1000000 in
set_option maxRecDepth 100000 in
theorem schedule_ok (v : Value) (bs : List Nat) (w : World) (h : Bs w v bs) (hl : 64 ≤ bs.length) :
    Calls Tryd.prog 28 #[v] w fun e w' => e = .returned (.agg (cw (sched bs)).toArray) ∧ Below w.heap.size w w' := by
  have H := (show Hid _ from h)
  obtain ⟨hby, a, c, rfl, hlc, hc9, hno, hx⟩ := h
  obtain ⟨b, off, rfl, hb, hc⟩ := hx (by omega)
  have HY := (show Hid _ from hby)
  obtain ⟨L, hL⟩ : ∃ L, L = bs.length := ⟨_, rfl⟩
  rw [← hL] at hlc hl H ⊢
  clear hx hno hc hL hby
  go_enter Tryd.func28, Tryd.ntmps28
  go_wp2_with fail
  go_loopw [10] (fun i wr => ∃ k : Nat, k ≤ 16 ∧ i = .int .i64 k ∧ Below w.heap.size w wr ∧ Hid (VA wr (w.heap.size + 1) (cw (fw bs k)) 33) ∧ Hid (VA wr w.heap.size (cw (List.replicate 64 0)) 33)) (fun i _ => 16 - (intOf i).toNat)
  case atStart =>
    refine ⟨0, by omega, rfl, ((Below.refl _ _).alloc (Nat.le_refl _) _).alloc (by simp) _, ?_, ?_⟩
    · have := va_new (w.alloc (.cells (cw (List.replicate 64 0)).toArray 33)) (cw (List.replicate 64 0)) 33
      rw [World.size_alloc] at this
      exact this
    · exact (va_new w (cw (List.replicate 64 0)) 33).alloc _
  case round =>
    obtain ⟨k, hk, rfl, hbel, V, Z⟩ := hrel
    have HBL := (show Hid _ from hbel)
    clear hbel
    by_cases hk16 : k = 16
    · subst hk16
      rw [show ((16 : Nat) : Int) = 16 from rfl]
      clear hk
      have V0 := (show Hid _ from V.out)
      clear V
      go_wp2_with fail
      go_loopw [5] (fun i wr => ∃ k : Nat, k ≤ 48 ∧ i = .int .i64 ((16 + k : Nat) : Int) ∧ Below w.heap.size w wr ∧ Hid (VA wr (w.heap.size + 1) (cw (sch (fw bs 16) k)) 33) ∧ Hid (VA wr w.heap.size (cw (List.replicate 64 0)) 33)) (fun i _ => 64 - (intOf i).toNat)
      case atStart => exact ⟨0, by omega, rfl, HBL.out, V0, Z⟩
      case round =>
        clear V0 Z HBL
        obtain ⟨k, hk, rfl, hbel, V, Z⟩ := hrel
        have HBL := (show Hid _ from hbel)
        clear hbel
        by_cases hk48 : k = 48
        · subst hk48
          rw [show ((16 + 48 : Nat) : Int) = 64 from rfl]
          go_wp2_with (first
            | (refine ldA rfl 33 _ rfl (w.heap.size + 1) (by rfl) _ _ V.out 64 _ Tryd.underlying33 (info33.trans (by rw [cw_len, sch_len _ (fw_len _ _)])) ?_)
            | (refine stA rfl 33 _ _ rfl w.heap.size (by rfl) _ _ (by rfl) _ Z.out (info33.trans (by rw [cw_len, sch_len _ (fw_len _ _)])) (by rw [cw_len, cw_len, sch_len _ (fw_len _ _)]; simp) (fun v hv => cw_one hv) ?_; intro w3 R U))
          refine bodyPost_ret (v := .agg (cw (sch (fw bs 16) 48)).toArray) ?_ rfl ⟨rfl, U.bel HBL.out (Nat.le_refl _)⟩
          have hld := run_loadVar_row (P := Tryd.prog) w3 w.heap.size 33 33 _ (0, 0) _ R.blk Tryd.underlying33 rfl (info33.trans (by rw [List.size_toArray, cw_len, sch_len _ (fw_len _ _)]))
          simp [results, Tryd.results28, asAddr, hld, Act.put]
        have hk' : k < 48 := by omega
        obtain ⟨i, hi⟩ : ∃ i, i = 16 + k := ⟨_, rfl⟩
        have HI : Hid (i = 16 + k) := hi
        rw [← hi]
        have i1 : 16 ≤ i := by omega
        have i2 : i < 64 := by omega
        obtain ⟨xs, hxs⟩ : ∃ xs, xs = sch (fw bs 16) k := ⟨_, rfl⟩
        have HXS : Hid (xs = sch (fw bs 16) k) := hxs
        rw [← hxs] at V
        have xl : xs.length = 64 := by rw [hxs]; exact sch_len _ (fw_len _ _) _
        have HS : Hid (∀ x ∈ xs, x < 4294967296) := by rw [hxs]; exact sch_small (fw_small HY.out 16) k
        obtain ⟨j16, hj16⟩ : ∃ j, j = i - 16 := ⟨_, rfl⟩
        obtain ⟨j15, hj15⟩ : ∃ j, j = i - 15 := ⟨_, rfl⟩
        obtain ⟨j7, hj7⟩ : ∃ j, j = i - 7 := ⟨_, rfl⟩
        obtain ⟨j2, hj2⟩ : ∃ j, j = i - 2 := ⟨_, rfl⟩
        have HJ : Hid (j16 = i - 16 ∧ j15 = i - 15 ∧ j7 = i - 7 ∧ j2 = i - 2) := ⟨hj16, hj15, hj7, hj2⟩
        have e16 : (i : Int) - 16 = (j16 : Int) := by omega
        have e15 : (i : Int) - 15 = (j15 : Int) := by omega
        have e7 : (i : Int) - 7 = (j7 : Int) := by omega
        have e2 : (i : Int) - 2 = (j2 : Int) := by omega
        have l16 : j16 < 64 := by omega
        have l15 : j15 < 64 := by omega
        have l7 : j7 < 64 := by omega
        have l2 : j2 < 64 := by omega
        have c16 := V.out.cell j16 (cw_get xs j16 (by omega))
        have c15 := V.out.cell j15 (cw_get xs j15 (by omega))
        have c7 := V.out.cell j7 (cw_get xs j7 (by omega))
        have c2 := V.out.cell j2 (cw_get xs j2 (by omega))
        have ci := V.out.cell i (cw_get xs i (by omega))
        have b16 := getD_small HS.out j16
        have b15 := getD_small HS.out j15
        have b7 := getD_small HS.out j7
        have b2 := getD_small HS.out j2
        have HG : Hid ((xs.getD j16 0 + s0 (xs.getD j15 0) + xs.getD j7 0 + s1 (xs.getD j2 0)) % 4294967296 = nextW xs i) := by
          show _ = _
          rw [hj16, hj15, hj7, hj2]
          rfl
        clear hj16 hj15 hj7 hj2 hxs hi
        have g16 := cw_get xs j16 (by omega)
        have g7 := cw_get xs j7 (by omega)
        have gi := cw_get xs i (by omega)
        generalize xs.getD j16 0 = x16 at *
        generalize xs.getD j15 0 = x15 at *
        generalize xs.getD j7 0 = x7 at *
        generalize xs.getD j2 0 = x2 at *
        generalize xs.getD i 0 = xi at *
        have G16 := (show Hid _ from g16)
        have G7 := (show Hid _ from g7)
        have GI := (show Hid _ from gi)
        clear g16 g7 gi c16 c7 ci
        have r1 := rot_lt (n := 7) b15
        have r2 := rot_lt (n := 18) b15
        have r3 := rot_lt (n := 17) b2
        have r4 := rot_lt (n := 19) b2
        have y1 := u32_xor_nat (rot x15 7) (rot x15 18) r1 r2
        have y2 := u32_xor_nat (rot x15 7 ^^^ rot x15 18) (x15 / 8) (x32 r1 r2) (by omega)
        have y3 := u32_xor_nat (rot x2 17) (rot x2 19) r3 r4
        have y4 := u32_xor_nat (rot x2 17 ^^^ rot x2 19) (x2 / 1024) (x32 r3 r4) (by omega)
        rw [show ((x15 / 8 : Nat) : Int) = (x15 : Int) / 8 by omega] at y2
        rw [show ((x2 / 1024 : Nat) : Int) = (x2 : Int) / 1024 by omega] at y4
        go_wp2_with fail
        go_quiet (fail)
        go_wp2_with fail
        refine (turned_ok x15 7 _ rfl _ b15 (by unfold Turn; omega)).mono ?_
        rintro e1 w2 ⟨rfl, rfl⟩
        go_wp2_with fail
        refine (turned_ok x15 18 _ rfl _ b15 (by unfold Turn; omega)).mono ?_
        rintro e1 w2 ⟨rfl, rfl⟩
        go_wp2_with fail
        refine (turned_ok x2 17 _ rfl _ b2 (by unfold Turn; omega)).mono ?_
        rintro e1 w2 ⟨rfl, rfl⟩
        go_wp2_with fail
        refine (turned_ok x2 19 _ rfl _ b2 (by unfold Turn; omega)).mono ?_
        rintro e1 w2 ⟨rfl, rfl⟩
        go_wp2_with fail
        have V1 := (show Hid _ from V.out.drewN nq)
        have Z1 := (show Hid _ from Z.out.drewN nq)
        have B1 := (show Hid _ from bel_drewN HBL.out nq)
        have c16 := V1.out.cell j16 G16.out
        have c7 := V1.out.cell j7 G7.out
        have ci := V1.out.cell i GI.out
        have hf := V1.out.free i
        have t1 := x32 (x32 r1 r2) (show x15 / 8 < 4294967296 by omega)
        have t2 := x32 (x32 r3 r4) (show x2 / 1024 < 4294967296 by omega)
        rw [show s0 x15 = rot x15 7 ^^^ rot x15 18 ^^^ x15 / 8 from rfl, show s1 x2 = rot x2 17 ^^^ rot x2 19 ^^^ x2 / 1024 from rfl] at HG
        clear V Z HBL y1 y2 y3 y4 r1 r2 r3 r4 c15 c2
        generalize rot x15 7 ^^^ rot x15 18 ^^^ x15 / 8 = sA at *
        generalize rot x2 17 ^^^ rot x2 19 ^^^ x2 / 1024 = sB at *
        generalize wr.drewN nq = wq at *
        have d1 : (0 : Int) ≤ (j16 : Int) := by omega
        have d2 : (j16 : Int) < 64 := by omega
        have d3 : (0 : Int) ≤ (j7 : Int) := by omega
        have d4 : (j7 : Int) < 64 := by omega
        have d5 : (0 : Int) ≤ (i : Int) := by omega
        have d6 : (i : Int) < 64 := by omega
        have f1 : IntKind.i64.wrap ((i : Int) - 16) = (j16 : Int) := by rw [IntKind.wrap_i64]; omega
        have f2 : IntKind.i64.wrap ((i : Int) - 7) = (j7 : Int) := by rw [IntKind.wrap_i64]; omega
        have ne1 : i ≠ j16 := by have := HJ.out; omega
        have ne7 : i ≠ j7 := by have := HJ.out; omega
        clear e16 e15 e7 e2
        go_region_held3 (fun w' => w'.cell? ⟨w.heap.size + 1, j16, none⟩ = some (.int .u32 (x16 : Int)) ∧ w'.cell? ⟨w.heap.size + 1, j7, none⟩ = some (.int .u32 (x7 : Int)))
          (first | exact ⟨c16, c7⟩ | exact ⟨(cell_sc ne1).trans c16, (cell_sc ne7).trans c7⟩)
          (fail)
        have HV : IntKind.u32.wrap (IntKind.u32.wrap (IntKind.u32.wrap ((x16 : Int) + (sA : Int)) + (x7 : Int)) + (sB : Int)) = ((nextW xs i : Nat) : Int) := by
          rw [← HG.out, IntKind.wrap_u32, IntKind.wrap_u32, IntKind.wrap_u32]
          omega
        rw [HV]
        have V2 : Hid (VA (wq.setCell ⟨w.heap.size + 1, i, none⟩ (.int .u32 ((nextW xs i : Nat) : Int))).drew (w.heap.size + 1) (cw (sch (fw bs 16) (k + 1))) 33) := by
          have := (V1.out.set i (.int .u32 ((nextW xs i : Nat) : Int))).drew
          rw [← cw_set, HXS.out, HI.out] at this
          rw [HXS.out, HI.out]
          exact this
        have Z2 : Hid (VA (wq.setCell ⟨w.heap.size + 1, i, none⟩ (.int .u32 ((nextW xs i : Nat) : Int))).drew w.heap.size (cw (List.replicate 64 0)) 33) := (Z1.out.set_other (by omega) _ _).drew
        have B2 : Hid (Below w.heap.size w (wq.setCell ⟨w.heap.size + 1, i, none⟩ (.int .u32 ((nextW xs i : Nat) : Int))).drew) := (B1.out.setCell (p := ⟨w.heap.size + 1, i, none⟩) (by simp) _).drew
        clear V1 Z1 B1 c16 c7 ci hf HV HG
        generalize (wq.setCell ⟨w.heap.size + 1, i, none⟩ (.int .u32 ((nextW xs i : Nat) : Int))).drew = wz at *
        go_wp2_with fail
        refine ⟨⟨k + 1, by omega, ?_, B2.out, V2, Z2⟩, by simp [intOf]; omega⟩
        have := HI.out
        go_num
    have hk' : k < 16 := by omega
    have e1 : (k : Int) * 4 = ((4 * k : Nat) : Int) := by omega
    have e2 : ¬ c = 4 * k := by omega
    have X := (show Hid _ from bs_from (H.out.step HBL.out) (4 * k) (by omega))
    go_wp2_with fail
    refine (word_ok _ (bs.drop (4 * k)) _ X.out (by have := (X.out.len).1; omega)).mono ?_
    rintro e w2 ⟨rfl, hb2⟩
    have V' := (show Hid _ from V.out.step hb2)
    have Z' := (show Hid _ from Z.out.step hb2)
    have HB2 := (show Hid _ from HBL.out.trans (hb2.mono HBL.out.size))
    have hv := V'.out.cell k (cw_get _ k (by rw [fw_len]; omega))
    have hf := V'.out.free k
    clear hb2 V Z X HBL
    have HW : Hid (wd4 ((bs.drop (4 * k)).getD 0 0) ((bs.drop (4 * k)).getD 1 0) ((bs.drop (4 * k)).getD 2 0) ((bs.drop (4 * k)).getD 3 0) = wdAt bs k) := by
      show _ = _
      rw [drop_getD, drop_getD, drop_getD, drop_getD]
      rfl
    rw [HW.out]
    clear HW
    have V2 : Hid (VA (w2.setCell ⟨w.heap.size + 1, k, none⟩ (.int .u32 ((wdAt bs k : Nat) : Int))) (w.heap.size + 1) (cw (fw bs (k + 1))) 33) := by
      have := V'.out.set k (.int .u32 ((wdAt bs k : Nat) : Int))
      rw [← cw_set] at this
      exact this
    have Z2 : Hid (VA (w2.setCell ⟨w.heap.size + 1, k, none⟩ (.int .u32 ((wdAt bs k : Nat) : Int))) w.heap.size (cw (List.replicate 64 0)) 33) := Z'.out.set_other (by omega) _ _
    have B2 : Hid (Below w.heap.size w (w2.setCell ⟨w.heap.size + 1, k, none⟩ (.int .u32 ((wdAt bs k : Nat) : Int)))) := HB2.out.setCell (p := ⟨w.heap.size + 1, k, none⟩) (by simp) _
    clear V' Z' HB2
    go_wp2_with fail
    exact ⟨⟨k + 1, by omega, by go_num, B2.out, V2, Z2⟩, by simp [intOf]; omega⟩
end Go.Proofs.YtbgmepepcdpkfaaDoor
