/- sum: the contracts of turns and schedule. -/
import Derived.Test.YtkmdegmpffgplaaGreatDoorLat
namespace Go.Proofs.YtkmdegmpffgplaaGreatDoor.pk
open Go.RowKit
set_option linter.unusedVariables false

def S1 (e : Nat) : Nat := rot e 6 ^^^ rot e 11 ^^^ rot e 25
def S0 (a : Nat) : Nat := rot a 2 ^^^ rot a 13 ^^^ rot a 22
def Ch (e f g : Nat) : Nat := (e &&& f) ^^^ ((4294967295 - e) &&& g)
def Mj (a b c : Nat) : Nat := (a &&& b) ^^^ (a &&& c) ^^^ (b &&& c)
def T1 (h e f g more : Nat) : Nat := (h + S1 e + Ch e f g + more) % 4294967296
def T2 (a b c : Nat) : Nat := (S0 a + Mj a b c) % 4294967296
theorem and32 {a b : Nat} (h : a < 4294967296) : a &&& b < 4294967296 := Nat.lt_of_le_of_lt Nat.and_le_left h
/-- eight words -/
structure W8 (ss : List Nat) : Prop where
  len : ss.length = 8
  small : ∀ x ∈ ss, x < 4294967296
theorem getD_small {ss : List Nat} (h : ∀ x ∈ ss, x < 4294967296) (k : Nat) : ss.getD k 0 < 4294967296 := by
  by_cases hk : k < ss.length
  · have := h (ss.getD k 0) (by simp [hk])
    exact this
  · simp [List.getD, List.getElem?_eq_none (Nat.le_of_not_lt hk)]
theorem W8.at {ss : List Nat} (h : W8 ss) (k : Nat) : ss.getD k 0 < 4294967296 := getD_small h.small k
def TT1 (ss : List Nat) (more : Nat) : Nat := T1 (ss.getD 7 0) (ss.getD 4 0) (ss.getD 5 0) (ss.getD 6 0) more
def TT2 (ss : List Nat) : Nat := T2 (ss.getD 0 0) (ss.getD 1 0) (ss.getD 2 0)
theorem info43 : (Tryz.prog.info? 145).map (·.size) = some 8 := by kernel_rfl
theorem xor_max (e : Nat) (h : e < 4294967296) : bits .xor .u32 IntKind.u32.max (e : Int) = ((4294967295 - e : Nat) : Int) := by
  have h1 := u32_xor_nat 4294967295 e (by omega) h
  rw [show IntKind.u32.max = ((4294967295 : Nat) : Int) from rfl, h1]
  congr 1
  have h2 : (BitVec.allOnes 32 ^^^ BitVec.ofNat 32 e) = ~~~ (BitVec.ofNat 32 e) := BitVec.allOnes_xor
  have h3 := congrArg BitVec.toNat h2
  rw [BitVec.toNat_xor, BitVec.toNat_not, BitVec.toNat_allOnes, BitVec.toNat_ofNat, Nat.mod_eq_of_lt (by simpa using h)] at h3
  exact h3
set_option maxHeartbeats 1000000 in
set_option maxRecDepth 100000 in
theorem turns_ok (ss : List Nat) (m : Nat) (w : World) (h : W8 ss) (hm : m < 4294967296) :
    Calls Tryz.prog 108 #[.agg (cw ss).toArray, .int .u32 m] w fun e w' => e = .returned (.tuple #[.int .u32 (TT1 ss m), .int .u32 (TT2 ss)]) ∧ Below w.heap.size w w' := by
  have HT1 : Hid (TT1 ss m = T1 (ss.getD 7 0) (ss.getD 4 0) (ss.getD 5 0) (ss.getD 6 0) m) := rfl
  have HT2 : Hid (TT2 ss = T2 (ss.getD 0 0) (ss.getD 1 0) (ss.getD 2 0)) := rfl
  have H0 := h.at 0
  have H1 := h.at 1
  have H2 := h.at 2
  have H4 := h.at 4
  have H5 := h.at 5
  have H6 := h.at 6
  have H7 := h.at 7
  have HL := h.len
  have V := va_new w (cw ss) 145
  have c0 := V.cell 0 (cw_get ss 0 (by omega))
  have c1 := V.cell 1 (cw_get ss 1 (by omega))
  have c2 := V.cell 2 (cw_get ss 2 (by omega))
  have c4 := V.cell 4 (cw_get ss 4 (by omega))
  have c5 := V.cell 5 (cw_get ss 5 (by omega))
  have c6 := V.cell 6 (cw_get ss 6 (by omega))
  have c7 := V.cell 7 (cw_get ss 7 (by omega))
  have B := (show Hid _ from (Below.refl w.heap.size w).alloc (Nat.le_refl _) (.cells (cw ss).toArray 145))
  unfold TT1 TT2
  clear V HT1 HT2 h HL
  generalize ss.getD 0 0 = a at *
  generalize ss.getD 1 0 = b at *
  generalize ss.getD 2 0 = c at *
  generalize ss.getD 4 0 = e at *
  generalize ss.getD 5 0 = f at *
  generalize ss.getD 6 0 = g at *
  generalize ss.getD 7 0 = z at *
  have r1 := rot_lt (n := 6) H4
  have r2 := rot_lt (n := 11) H4
  have r3 := rot_lt (n := 25) H4
  have q1 := rot_lt (n := 2) H0
  have q2 := rot_lt (n := 13) H0
  have q3 := rot_lt (n := 22) H0
  have x1 := u32_xor_nat (rot e 6) (rot e 11) r1 r2
  have x2 := u32_xor_nat (rot e 6 ^^^ rot e 11) (rot e 25) (x32 r1 r2) r3
  have x3 := u32_xor_nat (rot a 2) (rot a 13) q1 q2
  have x4 := u32_xor_nat (rot a 2 ^^^ rot a 13) (rot a 22) (x32 q1 q2) q3
  have z1 := xor_max e H4
  have n1 := u32_and_nat e f H4 H5
  have n2 := u32_and_nat (4294967295 - e) g (by omega) H6
  have n3 := u32_and_nat a b H0 H1
  have n4 := u32_and_nat a c H0 H2
  have n5 := u32_and_nat b c H1 H2
  have y1 := u32_xor_nat (e &&& f) ((4294967295 - e) &&& g) (and32 H4) (and32 (by omega))
  have y2 := u32_xor_nat (a &&& b) (a &&& c) (and32 H0) (and32 H0)
  have y3 := u32_xor_nat ((a &&& b) ^^^ (a &&& c)) (b &&& c) (x32 (and32 H0) (and32 H0)) (and32 H1)
  go_enter Tryz.func108, Tryz.ntmps108
  go_wp2_with fail
  generalize w.alloc (.cells (cw ss).toArray 145) = w1 at *
  go_quiet (fail)
  go_wp2_with fail
  refine (turned_ok e 6 _ rfl _ H4 (by unfold Turn; omega)).mono ?_
  rintro e1 w2 ⟨rfl, rfl⟩
  go_wp2_with fail
  refine (turned_ok e 11 _ rfl _ H4 (by unfold Turn; omega)).mono ?_
  rintro e1 w2 ⟨rfl, rfl⟩
  go_wp2_with fail
  refine (turned_ok e 25 _ rfl _ H4 (by unfold Turn; omega)).mono ?_
  rintro e1 w2 ⟨rfl, rfl⟩
  go_wp2_with fail
  refine (turned_ok a 2 _ rfl _ H0 (by unfold Turn; omega)).mono ?_
  rintro e1 w2 ⟨rfl, rfl⟩
  go_wp2_with fail
  refine (turned_ok a 13 _ rfl _ H0 (by unfold Turn; omega)).mono ?_
  rintro e1 w2 ⟨rfl, rfl⟩
  go_wp2_with fail
  refine (turned_ok a 22 _ rfl _ H0 (by unfold Turn; omega)).mono ?_
  rintro e1 w2 ⟨rfl, rfl⟩
  go_wp2_with fail
  go_ret2
  refine ⟨?_, bel_drewN B.out _⟩
  unfold T1 T2 S1 S0 Ch Mj
  simp only [Array.getD]
  rfl
end Go.Proofs.YtkmdegmpffgplaaGreatDoor.pk
/- sum: the contract of schedule. -/
namespace Go.Proofs.YtkmdegmpffgplaaGreatDoor.pk
open Go.RowKit
set_option linter.unusedVariables false

theorem bs_from {w : World} {b off L c : Nat} {bs : List Nat} (h : Bs w (.slice (some ⟨b, off, none⟩) L c) bs) (k : Nat) (hk : k < L) : Bs w (.slice (some ⟨b, off + k, none⟩) (L - k) (c - k)) (bs.drop k) := by
  obtain ⟨hby, a', c', e, h1, h2, h3, h4⟩ := h
  cases e
  have hl : (bs.drop k).length = bs.length - k := by simp
  refine ⟨hby.drop k, some ⟨b, off + k, none⟩, c - k, by rw [hl], by omega, by omega, fun h => (by cases h), fun h0 => ?_⟩
  obtain ⟨b', off', e, hb, hx⟩ := h4 (by omega)
  cases e
  exact ⟨b, off + k, rfl, hb, fun j hj => by rw [bt_drop, Nat.add_assoc]; exact hx (k + j) (by omega)⟩
def wdAt (bs : List Nat) (k : Nat) : Nat := wd4 (bs.getD (4 * k) 0) (bs.getD (4 * k + 1) 0) (bs.getD (4 * k + 2) 0) (bs.getD (4 * k + 3) 0)
def fw (bs : List Nat) : Nat → List Nat
  | 0 => List.replicate 64 0
  | k + 1 => (fw bs k).set k (wdAt bs k)
def s0 (x : Nat) : Nat := rot x 7 ^^^ rot x 18 ^^^ x / 8
def s1 (y : Nat) : Nat := rot y 17 ^^^ rot y 19 ^^^ y / 1024
def nextW (xs : List Nat) (i : Nat) : Nat := (xs.getD (i - 16) 0 + s0 (xs.getD (i - 15) 0) + xs.getD (i - 7) 0 + s1 (xs.getD (i - 2) 0)) % 4294967296
def sch (xs : List Nat) : Nat → List Nat
  | 0 => xs
  | k + 1 => (sch xs k).set (16 + k) (nextW (sch xs k) (16 + k))
def sched (bs : List Nat) : List Nat := sch (fw bs 16) 48
theorem fw_len (bs : List Nat) : ∀ k, (fw bs k).length = 64
  | 0 => by simp [fw]
  | k + 1 => by simp [fw, fw_len bs k]
theorem sch_len (xs : List Nat) (h : xs.length = 64) : ∀ k, (sch xs k).length = 64
  | 0 => h
  | k + 1 => by simp [sch, sch_len xs h k]
theorem mem_set_small {xs : List Nat} {k d : Nat} (h : ∀ x ∈ xs, x < 4294967296) (hd : d < 4294967296) : ∀ x ∈ xs.set k d, x < 4294967296 := fun x hx => by
  rcases List.mem_or_eq_of_mem_set hx with hx | rfl
  · exact h x hx
  · exact hd
theorem by_getD {bs : List Nat} (h : By bs) (k : Nat) : bs.getD k 0 < 256 := by
  have := bt_bd h k
  unfold bt at this
  omega
theorem wdAt_lt {bs : List Nat} (h : By bs) (k : Nat) : wdAt bs k < 4294967296 := wd4_lt (by_getD h _) (by_getD h _) (by_getD h _) (by_getD h _)
theorem fw_small {bs : List Nat} (h : By bs) : ∀ k, ∀ x ∈ fw bs k, x < 4294967296
  | 0 => fun x hx => by simp [fw] at hx; omega
  | k + 1 => mem_set_small (fw_small h k) (wdAt_lt h k)
theorem nextW_lt (xs : List Nat) (i : Nat) : nextW xs i < 4294967296 := Nat.mod_lt _ (by omega)
theorem sch_small {xs : List Nat} (h : ∀ x ∈ xs, x < 4294967296) : ∀ k, ∀ x ∈ sch xs k, x < 4294967296
  | 0 => h
  | k + 1 => mem_set_small (sch_small h k) (nextW_lt _ _)
theorem sched_len (bs : List Nat) : (sched bs).length = 64 := sch_len _ (fw_len bs 16) 48
theorem sched_small {bs : List Nat} (h : By bs) : ∀ x ∈ sched bs, x < 4294967296 := sch_small (fw_small h 16) 48
theorem drop_getD (bs : List Nat) (n k : Nat) : (bs.drop n).getD k 0 = bs.getD (n + k) 0 := by simp [List.getD]
theorem cell_sc {w : World} {p i j : Nat} {u : Value} (h : i ≠ j) : (w.setCell ⟨p, i, none⟩ u).cell? ⟨p, j, none⟩ = w.cell? ⟨p, j, none⟩ := World.cell?_setCell_other _ _ _ _ (by intro e; simp only [Addr.mk.injEq] at e; omega)
theorem info33 : (Tryz.prog.info? 155).map (·.size) = some 64 := by kernel_rfl
set_option maxHeartbeats 1000000 in
set_option maxRecDepth 100000 in
theorem schedule_ok (v : Value) (bs : List Nat) (w : World) (h : Bs w v bs) (hl : 64 ≤ bs.length) :
    Calls Tryz.prog 107 #[v] w fun e w' => e = .returned (.agg (cw (sched bs)).toArray) ∧ Below w.heap.size w w' := by
  have H := (show Hid _ from h)
  obtain ⟨hby, a, c, rfl, hlc, hc9, hno, hx⟩ := h
  obtain ⟨b, off, rfl, hb, hc⟩ := hx (by omega)
  have HY := (show Hid _ from hby)
  obtain ⟨L, hL⟩ : ∃ L, L = bs.length := ⟨_, rfl⟩
  rw [← hL] at hlc hl H ⊢
  clear hx hno hc hL hby
  go_enter Tryz.func107, Tryz.ntmps107
  go_wp2_with fail
  go_loopw [10] (fun i wr => ∃ k : Nat, k ≤ 16 ∧ i = .int .i64 k ∧ Below w.heap.size w wr ∧ Hid (VA wr (w.heap.size + 1) (cw (fw bs k)) 155) ∧ Hid (VA wr w.heap.size (cw (List.replicate 64 0)) 155)) (fun i _ => 16 - (intOf i).toNat)
  case atStart =>
    refine ⟨0, by omega, rfl, ((Below.refl _ _).alloc (Nat.le_refl _) _).alloc (by simp) _, ?_, ?_⟩
    · have := va_new (w.alloc (.cells (cw (List.replicate 64 0)).toArray 155)) (cw (List.replicate 64 0)) 155
      rw [World.size_alloc] at this
      exact this
    · exact (va_new w (cw (List.replicate 64 0)) 155).alloc _
  case round =>
    obtain ⟨k, hk, rfl, hbel, V, Z⟩ := hrel
    have HBL := (show Hid _ from hbel)
    clear hbel
    by_cases hk16 : k = 16
    · subst hk16
      rw [show ((16 : Nat) : Int) = 16 from rfl]
      clear hk
      have V0 := (show Hid _ from V.out)
      clear V
      go_wp2_with fail
      go_loopw [5] (fun i wr => ∃ k : Nat, k ≤ 48 ∧ i = .int .i64 ((16 + k : Nat) : Int) ∧ Below w.heap.size w wr ∧ Hid (VA wr (w.heap.size + 1) (cw (sch (fw bs 16) k)) 155) ∧ Hid (VA wr w.heap.size (cw (List.replicate 64 0)) 155)) (fun i _ => 64 - (intOf i).toNat)
      case atStart => exact ⟨0, by omega, rfl, HBL.out, V0, Z⟩
      case round =>
        clear V0 Z HBL
        obtain ⟨k, hk, rfl, hbel, V, Z⟩ := hrel
        have HBL := (show Hid _ from hbel)
        clear hbel
        by_cases hk48 : k = 48
        · subst hk48
          rw [show ((16 + 48 : Nat) : Int) = 64 from rfl]
          go_wp2_with (first
            | (refine ldA rfl 155 _ rfl (w.heap.size + 1) (by rfl) _ _ V.out 64 _ Tryz.underlying155 (info33.trans (by rw [cw_len, sch_len _ (fw_len _ _)])) ?_)
            | (refine stA rfl 155 _ _ rfl w.heap.size (by rfl) _ _ (by rfl) _ Z.out (info33.trans (by rw [cw_len, sch_len _ (fw_len _ _)])) (by rw [cw_len, cw_len, sch_len _ (fw_len _ _)]; simp) (fun v hv => cw_one hv) ?_; intro w3 R U))
          refine bodyPost_ret (v := .agg (cw (sch (fw bs 16) 48)).toArray) ?_ rfl ⟨rfl, U.bel HBL.out (Nat.le_refl _)⟩
          have hld := run_loadVar_row (P := Tryz.prog) w3 w.heap.size 155 155 _ (0, 0) _ R.blk Tryz.underlying155 rfl (info33.trans (by rw [List.size_toArray, cw_len, sch_len _ (fw_len _ _)]))
          simp [results, Tryz.results107, asAddr, hld, Act.put]
        have hk' : k < 48 := by omega
        obtain ⟨i, hi⟩ : ∃ i, i = 16 + k := ⟨_, rfl⟩
        have HI : Hid (i = 16 + k) := hi
        rw [← hi]
        have i1 : 16 ≤ i := by omega
        have i2 : i < 64 := by omega
        obtain ⟨xs, hxs⟩ : ∃ xs, xs = sch (fw bs 16) k := ⟨_, rfl⟩
        have HXS : Hid (xs = sch (fw bs 16) k) := hxs
        rw [← hxs] at V
        have xl : xs.length = 64 := by rw [hxs]; exact sch_len _ (fw_len _ _) _
        have HS : Hid (∀ x ∈ xs, x < 4294967296) := by rw [hxs]; exact sch_small (fw_small HY.out 16) k
        obtain ⟨j16, hj16⟩ : ∃ j, j = i - 16 := ⟨_, rfl⟩
        obtain ⟨j15, hj15⟩ : ∃ j, j = i - 15 := ⟨_, rfl⟩
        obtain ⟨j7, hj7⟩ : ∃ j, j = i - 7 := ⟨_, rfl⟩
        obtain ⟨j2, hj2⟩ : ∃ j, j = i - 2 := ⟨_, rfl⟩
        have HJ : Hid (j16 = i - 16 ∧ j15 = i - 15 ∧ j7 = i - 7 ∧ j2 = i - 2) := ⟨hj16, hj15, hj7, hj2⟩
        have e16 : (i : Int) - 16 = (j16 : Int) := by omega
        have e15 : (i : Int) - 15 = (j15 : Int) := by omega
        have e7 : (i : Int) - 7 = (j7 : Int) := by omega
        have e2 : (i : Int) - 2 = (j2 : Int) := by omega
        have l16 : j16 < 64 := by omega
        have l15 : j15 < 64 := by omega
        have l7 : j7 < 64 := by omega
        have l2 : j2 < 64 := by omega
        have c16 := V.out.cell j16 (cw_get xs j16 (by omega))
        have c15 := V.out.cell j15 (cw_get xs j15 (by omega))
        have c7 := V.out.cell j7 (cw_get xs j7 (by omega))
        have c2 := V.out.cell j2 (cw_get xs j2 (by omega))
        have ci := V.out.cell i (cw_get xs i (by omega))
        have b16 := getD_small HS.out j16
        have b15 := getD_small HS.out j15
        have b7 := getD_small HS.out j7
        have b2 := getD_small HS.out j2
        have HG : Hid ((xs.getD j16 0 + s0 (xs.getD j15 0) + xs.getD j7 0 + s1 (xs.getD j2 0)) % 4294967296 = nextW xs i) := by
          show _ = _
          rw [hj16, hj15, hj7, hj2]
          rfl
        clear hj16 hj15 hj7 hj2 hxs hi
        have g16 := cw_get xs j16 (by omega)
        have g7 := cw_get xs j7 (by omega)
        have gi := cw_get xs i (by omega)
        generalize xs.getD j16 0 = x16 at *
        generalize xs.getD j15 0 = x15 at *
        generalize xs.getD j7 0 = x7 at *
        generalize xs.getD j2 0 = x2 at *
        generalize xs.getD i 0 = xi at *
        have G16 := (show Hid _ from g16)
        have G7 := (show Hid _ from g7)
        have GI := (show Hid _ from gi)
        clear g16 g7 gi c16 c7 ci
        have r1 := rot_lt (n := 7) b15
        have r2 := rot_lt (n := 18) b15
        have r3 := rot_lt (n := 17) b2
        have r4 := rot_lt (n := 19) b2
        have y1 := u32_xor_nat (rot x15 7) (rot x15 18) r1 r2
        have y2 := u32_xor_nat (rot x15 7 ^^^ rot x15 18) (x15 / 8) (x32 r1 r2) (by omega)
        have y3 := u32_xor_nat (rot x2 17) (rot x2 19) r3 r4
        have y4 := u32_xor_nat (rot x2 17 ^^^ rot x2 19) (x2 / 1024) (x32 r3 r4) (by omega)
        rw [show ((x15 / 8 : Nat) : Int) = (x15 : Int) / 8 by omega] at y2
        rw [show ((x2 / 1024 : Nat) : Int) = (x2 : Int) / 1024 by omega] at y4
        go_wp2_with fail
        go_quiet (fail)
        go_wp2_with fail
        refine (turned_ok x15 7 _ rfl _ b15 (by unfold Turn; omega)).mono ?_
        rintro e1 w2 ⟨rfl, rfl⟩
        go_wp2_with fail
        refine (turned_ok x15 18 _ rfl _ b15 (by unfold Turn; omega)).mono ?_
        rintro e1 w2 ⟨rfl, rfl⟩
        go_wp2_with fail
        refine (turned_ok x2 17 _ rfl _ b2 (by unfold Turn; omega)).mono ?_
        rintro e1 w2 ⟨rfl, rfl⟩
        go_wp2_with fail
        refine (turned_ok x2 19 _ rfl _ b2 (by unfold Turn; omega)).mono ?_
        rintro e1 w2 ⟨rfl, rfl⟩
        go_wp2_with fail
        have V1 := (show Hid _ from V.out.drewN nq)
        have Z1 := (show Hid _ from Z.out.drewN nq)
        have B1 := (show Hid _ from bel_drewN HBL.out nq)
        have c16 := V1.out.cell j16 G16.out
        have c7 := V1.out.cell j7 G7.out
        have ci := V1.out.cell i GI.out
        have hf := V1.out.free i
        have t1 := x32 (x32 r1 r2) (show x15 / 8 < 4294967296 by omega)
        have t2 := x32 (x32 r3 r4) (show x2 / 1024 < 4294967296 by omega)
        rw [show s0 x15 = rot x15 7 ^^^ rot x15 18 ^^^ x15 / 8 from rfl, show s1 x2 = rot x2 17 ^^^ rot x2 19 ^^^ x2 / 1024 from rfl] at HG
        clear V Z HBL y1 y2 y3 y4 r1 r2 r3 r4 c15 c2
        generalize rot x15 7 ^^^ rot x15 18 ^^^ x15 / 8 = sA at *
        generalize rot x2 17 ^^^ rot x2 19 ^^^ x2 / 1024 = sB at *
        generalize wr.drewN nq = wq at *
        have d1 : (0 : Int) ≤ (j16 : Int) := by omega
        have d2 : (j16 : Int) < 64 := by omega
        have d3 : (0 : Int) ≤ (j7 : Int) := by omega
        have d4 : (j7 : Int) < 64 := by omega
        have d5 : (0 : Int) ≤ (i : Int) := by omega
        have d6 : (i : Int) < 64 := by omega
        have f1 : IntKind.i64.wrap ((i : Int) - 16) = (j16 : Int) := by rw [IntKind.wrap_i64]; omega
        have f2 : IntKind.i64.wrap ((i : Int) - 7) = (j7 : Int) := by rw [IntKind.wrap_i64]; omega
        have ne1 : i ≠ j16 := by have := HJ.out; omega
        have ne7 : i ≠ j7 := by have := HJ.out; omega
        clear e16 e15 e7 e2
        go_region_held3 (fun w' => w'.cell? ⟨w.heap.size + 1, j16, none⟩ = some (.int .u32 (x16 : Int)) ∧ w'.cell? ⟨w.heap.size + 1, j7, none⟩ = some (.int .u32 (x7 : Int)))
          (first | exact ⟨c16, c7⟩ | exact ⟨(cell_sc ne1).trans c16, (cell_sc ne7).trans c7⟩)
          (fail)
        have HV : IntKind.u32.wrap (IntKind.u32.wrap (IntKind.u32.wrap ((x16 : Int) + (sA : Int)) + (x7 : Int)) + (sB : Int)) = ((nextW xs i : Nat) : Int) := by
          rw [← HG.out, IntKind.wrap_u32, IntKind.wrap_u32, IntKind.wrap_u32]
          omega
        rw [HV]
        have V2 : Hid (VA (wq.setCell ⟨w.heap.size + 1, i, none⟩ (.int .u32 ((nextW xs i : Nat) : Int))).drew (w.heap.size + 1) (cw (sch (fw bs 16) (k + 1))) 155) := by
          have := (V1.out.set i (.int .u32 ((nextW xs i : Nat) : Int))).drew
          rw [← cw_set, HXS.out, HI.out] at this
          rw [HXS.out, HI.out]
          exact this
        have Z2 : Hid (VA (wq.setCell ⟨w.heap.size + 1, i, none⟩ (.int .u32 ((nextW xs i : Nat) : Int))).drew w.heap.size (cw (List.replicate 64 0)) 155) := (Z1.out.set_other (by omega) _ _).drew
        have B2 : Hid (Below w.heap.size w (wq.setCell ⟨w.heap.size + 1, i, none⟩ (.int .u32 ((nextW xs i : Nat) : Int))).drew) := (B1.out.setCell (p := ⟨w.heap.size + 1, i, none⟩) (by simp) _).drew
        clear V1 Z1 B1 c16 c7 ci hf HV HG
        generalize (wq.setCell ⟨w.heap.size + 1, i, none⟩ (.int .u32 ((nextW xs i : Nat) : Int))).drew = wz at *
        go_wp2_with fail
        refine ⟨⟨k + 1, by omega, ?_, B2.out, V2, Z2⟩, by simp [intOf]; omega⟩
        have := HI.out
        go_num
    have hk' : k < 16 := by omega
    have e1 : (k : Int) * 4 = ((4 * k : Nat) : Int) := by omega
    have e2 : ¬ c = 4 * k := by omega
    have X := (show Hid _ from bs_from (H.out.step HBL.out) (4 * k) (by omega))
    go_wp2_with fail
    refine (word_ok _ (bs.drop (4 * k)) _ X.out (by have := (X.out.len).1; omega)).mono ?_
    rintro e w2 ⟨rfl, hb2⟩
    have V' := (show Hid _ from V.out.step hb2)
    have Z' := (show Hid _ from Z.out.step hb2)
    have HB2 := (show Hid _ from HBL.out.trans (hb2.mono HBL.out.size))
    have hv := V'.out.cell k (cw_get _ k (by rw [fw_len]; omega))
    have hf := V'.out.free k
    clear hb2 V Z X HBL
    have HW : Hid (wd4 ((bs.drop (4 * k)).getD 0 0) ((bs.drop (4 * k)).getD 1 0) ((bs.drop (4 * k)).getD 2 0) ((bs.drop (4 * k)).getD 3 0) = wdAt bs k) := by
      show _ = _
      rw [drop_getD, drop_getD, drop_getD, drop_getD]
      rfl
    rw [HW.out]
    clear HW
    have V2 : Hid (VA (w2.setCell ⟨w.heap.size + 1, k, none⟩ (.int .u32 ((wdAt bs k : Nat) : Int))) (w.heap.size + 1) (cw (fw bs (k + 1))) 155) := by
      have := V'.out.set k (.int .u32 ((wdAt bs k : Nat) : Int))
      rw [← cw_set] at this
      exact this
    have Z2 : Hid (VA (w2.setCell ⟨w.heap.size + 1, k, none⟩ (.int .u32 ((wdAt bs k : Nat) : Int))) w.heap.size (cw (List.replicate 64 0)) 155) := Z'.out.set_other (by omega) _ _
    have B2 : Hid (Below w.heap.size w (w2.setCell ⟨w.heap.size + 1, k, none⟩ (.int .u32 ((wdAt bs k : Nat) : Int)))) := HB2.out.setCell (p := ⟨w.heap.size + 1, k, none⟩) (by simp) _
    clear V' Z' HB2
    go_wp2_with fail
    exact ⟨⟨k + 1, by omega, by go_num, B2.out, V2, Z2⟩, by simp [intOf]; omega⟩
end Go.Proofs.YtkmdegmpffgplaaGreatDoor.pk
/- sum: the contract of mixed. -/
namespace Go.Proofs.YtkmdegmpffgplaaGreatDoor.pk
open Go.RowKit
set_option linter.unusedVariables false

def rts : List Nat := [1116352408, 1899447441, 3049323471, 3921009573, 961987163, 1508970993, 2453635748, 2870763221, 3624381080, 310598401, 607225278, 1426881987, 1925078388, 2162078206, 2614888103, 3248222580, 3835390401, 4022224774, 264347078, 604807628, 770255983, 1249150122, 1555081692, 1996064986, 2554220882, 2821834349, 2952996808, 3210313671, 3336571891, 3584528711, 113926993, 338241895, 666307205, 773529912, 1294757372, 1396182291, 1695183700, 1986661051, 2177026350, 2456956037, 2730485921, 2820302411, 3259730800, 3345764771, 3516065817, 3600352804, 4094571909, 275423344, 430227734, 506948616, 659060556, 883997877, 958139571, 1322822218, 1537002063, 1747873779, 1955562222, 2024104815, 2227730452, 2361852424, 2428436474, 2756734187, 3204031479, 3329325298]
def fst8 : List Nat := [1779033703, 3144134277, 1013904242, 2773480762, 1359893119, 2600822924, 528734635, 1541459225]
/-- the two tables -/
structure Tb (w : World) : Prop where
  roots : ∀ i, i < 64 → w.cell? ⟨1, i, none⟩ = some (.int .u32 ((rts.getD i 0 : Nat) : Int))
  first : ∀ i, i < 8 → w.cell? ⟨0, i, none⟩ = some (.int .u32 ((fst8.getD i 0 : Nat) : Int))
theorem Tb.lt {w : World} (h : Tb w) : 1 < w.heap.size := World.block_lt_of_cell? w _ (h.roots 0 (by omega))
theorem Tb.step {w w' : World} (h : Tb w) {B : Nat} (k : Below B w w') (hB : 2 ≤ B) : Tb w' :=
  ⟨fun i hi => (k.cell (p := ⟨1, i, none⟩) (by show 1 < B; omega)).trans (h.roots i hi), fun i hi => (k.cell (p := ⟨0, i, none⟩) (by show 0 < B; omega)).trans (h.first i hi)⟩
theorem rts_len : rts.length = 64 := rfl
theorem rts_small : ∀ x ∈ rts, x < 4294967296 := by decide +kernel
def rnd (ss : List Nat) (m : Nat) : List Nat := [(TT1 ss m + TT2 ss) % 4294967296, ss.getD 0 0, ss.getD 1 0, ss.getD 2 0, (ss.getD 3 0 + TT1 ss m) % 4294967296, ss.getD 4 0, ss.getD 5 0, ss.getD 6 0]
def rnds (ss ws : List Nat) : Nat → List Nat
  | 0 => ss
  | k + 1 => rnd (rnds ss ws k) ((rts.getD k 0 + ws.getD k 0) % 4294967296)
def addS (ss vs : List Nat) : Nat → List Nat
  | 0 => ss
  | k + 1 => (addS ss vs k).set k (((addS ss vs k).getD k 0 + vs.getD k 0) % 4294967296)
def mix (ss bs : List Nat) : List Nat := addS ss (rnds ss (sched bs) 64) 8
theorem rnd_w8 {ss : List Nat} (h : W8 ss) (m : Nat) : W8 (rnd ss m) := ⟨rfl, fun x hx => by
  simp only [rnd, List.mem_cons, List.not_mem_nil, or_false] at hx
  rcases hx with rfl | rfl | rfl | rfl | rfl | rfl | rfl | rfl
  · exact Nat.mod_lt _ (by omega)
  · exact h.at 0
  · exact h.at 1
  · exact h.at 2
  · exact Nat.mod_lt _ (by omega)
  · exact h.at 4
  · exact h.at 5
  · exact h.at 6⟩
theorem rnds_w8 {ss : List Nat} (h : W8 ss) (ws : List Nat) : ∀ k, W8 (rnds ss ws k)
  | 0 => h
  | k + 1 => rnd_w8 (rnds_w8 h ws k) _
theorem addS_w8 {ss : List Nat} (h : W8 ss) (vs : List Nat) : ∀ k, W8 (addS ss vs k)
  | 0 => h
  | k + 1 => ⟨by simp [addS, (addS_w8 h vs k).len], mem_set_small (addS_w8 h vs k).small (Nat.mod_lt _ (by omega))⟩
theorem w8_letters {ss : List Nat} (h : W8 ss) : ∃ a b c d e f g z : Nat, ss = [a, b, c, d, e, f, g, z] := by
  match ss, h.len with
  | [a, b, c, d, e, f, g, z], _ => exact ⟨a, b, c, d, e, f, g, z, rfl⟩
theorem bel_al {B : Nat} {a w : World} (h : Below B a w) (o : Obj) (hB : B ≤ w.heap.size := by omega) : Below B a (w.alloc o) := h.alloc hB o
theorem info27 : (Tryz.prog.info? 127).map (·.size) = some 1 := by kernel_rfl
theorem copy8 (a b c d e f g z : Nat) {w : World} {p : Nat} {T : TypeId} (h : VA w p (cw [a, b, c, d, e, f, g, z]) T) :
    ∃ w5, (Builtin.copy_ #[183, 183] 3 #[.slice (some ⟨p, 1, none⟩) 7 7, .slice (some ⟨p, 0, none⟩) 7 8]).run Tryz.prog w = .ok (.int .i64 7) w5 ∧ VA w5 p (cw [a, a, b, c, d, e, f, g]) T ∧ Upd p w w5 := by
  have hrun := run_copy_row (P := Tryz.prog) w 183 183 3 127 p 1 7 7 ⟨p, 0, none⟩ 7 8 _ T (cw [a, b, c, d, e, f, g]) Tryz.underlying183 info27 h.blk rfl (fun j v hv => by
    rw [Go.WideShapes.add_plain, Nat.zero_add]
    refine h.cell j ?_
    have hj : j < 7 := by have := (List.getElem?_eq_some_iff.1 hv).1; rw [cw_len] at this; exact this
    rw [← hv]
    show (cw ([a, b, c, d, e, f, g] ++ [z]))[j]? = _
    rw [cw, List.map_append, List.getElem?_append_left (by simpa using hj)]
    rfl) (by simp [cw]) (fun v hv => cw_one hv)
  exact ⟨_, hrun, ⟨setRow_heap w p _ _ _ _ h.blk⟩, upd_setRow w p _⟩
set_option maxHeartbeats 1000000 in
set_option maxRecDepth 100000 in
theorem mixed_ok (ss : List Nat) (v : Value) (bs : List Nat) (w : World) (hs : W8 ss) (h : Bs w v bs) (hl : 64 ≤ bs.length) (T : Tb w) :
    Calls Tryz.prog 84 #[.agg (cw ss).toArray, v] w fun e w' => e = .returned (.agg (cw (mix ss bs)).toArray) ∧ Below w.heap.size w w' := by
  have H := (show Hid _ from h)
  have HT := (show Hid _ from T)
  have HS := (show Hid _ from hs)
  have HY := (show Hid _ from h.byte)
  have hw1 := T.lt
  have V0 := (show Hid _ from ((va_new w (cw ss) 145).alloc (.cells (cw (List.replicate 8 0)).toArray 145)))
  have R0 := (show Hid _ from va_new (w.alloc (.cells (cw ss).toArray 145)) (cw (List.replicate 8 0)) 145)
  rw [World.size_alloc] at R0
  have B0 := (show Hid _ from ((Below.refl w.heap.size w).alloc (Nat.le_refl _) (.cells (cw ss).toArray 145)).alloc (by simp) (.cells (cw (List.replicate 8 0)).toArray 145))
  have S0 : Hid (((w.alloc (.cells (cw ss).toArray 145)).alloc (.cells (cw (List.replicate 8 0)).toArray 145)).heap.size = w.heap.size + 2) := by show _ = _; simp
  clear h T hs
  go_enter Tryz.func84, Tryz.ntmps84
  go_wp2_with fail
  change Calls _ _ _ ((w.alloc (.cells (cw ss).toArray 145)).alloc (.cells (cw (List.replicate 8 0)).toArray 145)) _
  generalize (w.alloc (.cells (cw ss).toArray 145)).alloc (.cells (cw (List.replicate 8 0)).toArray 145) = w0 at *
  refine (schedule_ok v bs _ (H.out.step B0.out) hl).mono ?_
  rintro e w1 ⟨rfl, hb1⟩
  obtain ⟨W, hW⟩ : ∃ W, W = sched bs := ⟨_, rfl⟩
  have HW : Hid (W = sched bs) := hW
  have HWl : Hid (W.length = 64) := by rw [hW]; exact sched_len bs
  rw [← hW]
  clear hW
  have V1 := (show Hid _ from V0.out.step hb1)
  have R1 := (show Hid _ from R0.out.step hb1)
  have B1 := (show Hid _ from B0.out.trans (hb1.mono B0.out.size))
  have N1 : w.heap.size + 2 ≤ w1.heap.size := by have := hb1.size; have := S0.out; omega
  clear V0 R0 B0 S0 hb1
  obtain ⟨N, hN⟩ : ∃ N, N = w1.heap.size := ⟨_, rfl⟩
  have HN : Hid (N = w1.heap.size) := hN
  rw [← hN] at N1
  go_wp2_with (first
    | (refine stA rfl 155 _ _ rfl w1.heap.size (by rfl) (cw (List.replicate 64 0)) _ (by rfl) _ (va_new w1 (cw (List.replicate 64 0)) 155) (info33.trans (by rw [cw_len, HWl.out])) (by rw [cw_len, cw_len, HWl.out]; simp) (fun v hv => cw_one hv) ?_; intro w2 W2 U2; have V2 := (V1.out.alloc _).upd U2 (by omega))
    | (refine ldA rfl 145 _ rfl w.heap.size (by rfl) _ _ V2 8 _ Tryz.underlying145 (info43.trans (by rw [cw_len, HS.out.len])) ?_)
    | (refine stA rfl 145 _ _ rfl w2.heap.size (by rfl) (cw (List.replicate 8 0)) _ (by rfl) _ (va_new w2 (cw (List.replicate 8 0)) 145) (info43.trans (by rw [cw_len, HS.out.len])) (by rw [cw_len, cw_len, HS.out.len]; simp) (fun v hv => cw_one hv) ?_; intro w3 W3 U3))
  have S3 := (V2.alloc (.cells (cw (List.replicate 8 0)).toArray 145)).upd U3 (by have := V2.lt; omega)
  have R2 := (R1.out.alloc (.cells (cw (List.replicate 64 0)).toArray 155)).upd U2 (by omega)
  have R3 := (R2.alloc (.cells (cw (List.replicate 8 0)).toArray 145)).upd U3 (by have := R2.lt; omega)
  have W4 := (W2.alloc (.cells (cw (List.replicate 8 0)).toArray 145)).upd U3 (by have := W2.lt; omega)
  have M1 : w2.heap.size = N + 1 := by rw [U2.size, hN]; simp
  have B2 := U2.bel (bel_al B1.out (.cells (cw (List.replicate 64 0)).toArray 155) (by omega)) (by omega)
  have B3 := U3.bel (bel_al B2 (.cells (cw (List.replicate 8 0)).toArray 145) (by omega)) (by omega)
  rw [← hN] at W4
  rw [M1] at W3
  rw [← hN, M1]
  clear hN U2 U3 V2 R2 W2 B2 R1 V1 B1 M1 HN
  have K0 : Hid (VA w3 w.heap.size (cw ss) 145 ∧ VA w3 (w.heap.size + 1) (cw (List.replicate 8 0)) 145 ∧ VA w3 N (cw W) 155 ∧ VA w3 (N + 1) (cw (rnds ss W 0)) 145) := ⟨S3, R3, W4, W3⟩
  have B3' := (show Hid _ from B3)
  clear S3 R3 W4 W3 B3
  generalize hP : w.heap.size = P at *
  go_loopw [14] (fun i wr => ∃ k : Nat, k ≤ 64 ∧ i = .int .i64 k ∧ Below P w wr ∧ Hid (VA wr P (cw ss) 145 ∧ VA wr (P + 1) (cw (List.replicate 8 0)) 145 ∧ VA wr N (cw W) 155 ∧ VA wr (N + 1) (cw (rnds ss W k)) 145)) (fun i _ => 64 - (intOf i).toNat)
  case atStart => exact ⟨0, by omega, rfl, B3'.out, K0⟩
  case round =>
    clear K0 B3'
    obtain ⟨k, hk, rfl, hbel, K⟩ := hrel
    have HB := (show Hid _ from hbel)
    clear hbel
    by_cases hk64 : k = 64
    · subst hk64
      rw [show ((64 : Nat) : Int) = 64 from rfl]
      obtain ⟨vs, hvs⟩ : ∃ vs, vs = rnds ss W 64 := ⟨_, rfl⟩
      have HVS := (show Hid _ from hvs)
      have W8v : Hid (W8 vs) := by rw [hvs]; exact rnds_w8 HS.out W 64
      rw [← hvs] at K
      clear hvs hk
      go_wp2_with fail
      go_loopw [42] (fun i wr => ∃ k : Nat, k ≤ 8 ∧ i = .int .i64 k ∧ Below P w wr ∧ Hid (VA wr P (cw (addS ss vs k)) 145 ∧ VA wr (P + 1) (cw (List.replicate 8 0)) 145 ∧ VA wr (N + 1) (cw vs) 145)) (fun i _ => 8 - (intOf i).toNat)
      case atStart => exact ⟨0, by omega, rfl, HB.out, K.out.1, K.out.2.1, K.out.2.2.2⟩
      case round =>
        clear K HB
        obtain ⟨k, hk, rfl, hbel, K⟩ := hrel
        have HB := (show Hid _ from hbel)
        clear hbel
        by_cases hk8 : k = 8
        · subst hk8
          rw [show ((8 : Nat) : Int) = 8 from rfl]
          have W8a : Hid (W8 (addS ss vs 8)) := addS_w8 HS.out vs 8
          go_wp2_with (first
            | (refine ldA rfl 145 _ rfl P (by rfl) _ _ K.out.1 8 _ Tryz.underlying145 (info43.trans (by rw [cw_len, W8a.out.len])) ?_)
            | (refine stA rfl 145 _ _ rfl (P + 1) (by rfl) _ _ (by rfl) _ K.out.2.1 (info43.trans (by rw [cw_len, W8a.out.len])) (by rw [cw_len, cw_len, W8a.out.len]; simp) (fun v hv => cw_one hv) ?_; intro w9 R9 U9))
          refine bodyPost_ret (v := .agg (cw (addS ss vs 8)).toArray) ?_ rfl ⟨?_, ?_⟩
          · have hld := run_loadVar_row (P := Tryz.prog) w9 (P + 1) 145 145 _ (0, 0) _ R9.blk Tryz.underlying145 rfl (info43.trans (by rw [List.size_toArray, cw_len, W8a.out.len]))
            simp [results, Tryz.results84, asAddr, hld, Act.put]
          · rw [HVS.out, HW.out]; rfl
          · rw [hP]; exact U9.bel HB.out (by omega)
        have hk' : k < 8 := by omega
        have W8a : Hid (W8 (addS ss vs k)) := addS_w8 HS.out vs k
        have c1 := K.out.1.cell k (cw_get _ k (by rw [W8a.out.len]; exact hk'))
        have c2 := K.out.2.2.cell k (cw_get _ k (by rw [W8v.out.len]; exact hk'))
        have b1 := W8a.out.at k
        have b2 := W8v.out.at k
        have h1 := K.out.1.free k
        have HE : Hid (addS ss vs (k + 1) = (addS ss vs k).set k (((addS ss vs k).getD k 0 + vs.getD k 0) % 4294967296)) := rfl
        generalize (addS ss vs k).getD k 0 = x at *
        generalize vs.getD k 0 = y at *
        have d1 : (0 : Int) ≤ (k : Int) := by omega
        have d2 : (k : Int) < 8 := by omega
        go_wp2_with fail
        go_region
        go_wp2_with fail
        rw [show ((x : Int) + (y : Int)) % 4294967296 = (((x + y) % 4294967296 : Nat) : Int) by omega]
        refine ⟨⟨k + 1, by omega, by go_num, (HB.out.setCell (p := ⟨P, k, none⟩) (Nat.le_refl _) _).drew, ?_, (K.out.2.1.set_other (by omega) _ _).drew, (K.out.2.2.set_other (by omega) _ _).drew⟩, by simp [intOf]; omega⟩
        rw [HE.out, cw_set]
        exact (K.out.1.set k _).drew
    have hk' : k < 64 := by omega
    have W8k := rnds_w8 HS.out W k
    obtain ⟨a, b, c, d, e, f, g, z, hv⟩ := w8_letters W8k
    have HV := (show Hid _ from hv)
    rw [hv] at K W8k
    clear hv
    have HW8 := (show Hid _ from W8k)
    clear W8k
    obtain ⟨K1, K2, K3, K4⟩ := K.out
    have hr := (HT.out.step HB.out (by omega)).roots k hk'
    have hwk := K3.cell k (cw_get W k (by rw [HWl.out]; exact hk'))
    have br := getD_small rts_small k
    have bw : W.getD k 0 < 4294967296 := getD_small (by rw [HW.out]; exact sched_small HY.out) k
    have HE : Hid (rnds ss W (k + 1) = rnd [a, b, c, d, e, f, g, z] ((rts.getD k 0 + W.getD k 0) % 4294967296)) := by rw [← HV.out]; rfl
    generalize rts.getD k 0 = r at *
    generalize W.getD k 0 = x at *
    obtain ⟨m, hm⟩ : ∃ m, m = (r + x) % 4294967296 := ⟨_, rfl⟩
    rw [← hm] at HE
    have em : IntKind.u32.wrap ((r : Int) + (x : Int)) = (m : Int) := by rw [IntKind.wrap_u32]; omega
    have em2 : ((r : Int) + (x : Int)) % 4294967296 = (m : Int) := by omega
    have bm : m < 4294967296 := by omega
    clear hm
    have c0 := K4.cell 0 (v := .int .u32 (a : Int)) rfl
    have c1 := K4.cell 1 (v := .int .u32 (b : Int)) rfl
    have c2 := K4.cell 2 (v := .int .u32 (c : Int)) rfl
    have c3 := K4.cell 3 (v := .int .u32 (d : Int)) rfl
    have c4 := K4.cell 4 (v := .int .u32 (e : Int)) rfl
    have c5 := K4.cell 5 (v := .int .u32 (f : Int)) rfl
    have c6 := K4.cell 6 (v := .int .u32 (g : Int)) rfl
    have c7 := K4.cell 7 (v := .int .u32 (z : Int)) rfl
    have d1 : (0 : Int) ≤ (k : Int) := by omega
    have d2 : (k : Int) < 64 := by omega
    have NP : P < N ∧ 1 < P := by omega
    go_wp2_with fail
    go_region_held3 (fun w' => w'.cell? ⟨N + 1, 0, none⟩ = some (.int .u32 (a : Int)) ∧ w'.cell? ⟨N + 1, 1, none⟩ = some (.int .u32 (b : Int)) ∧ w'.cell? ⟨N + 1, 2, none⟩ = some (.int .u32 (c : Int)) ∧ w'.cell? ⟨N + 1, 3, none⟩ = some (.int .u32 (d : Int)) ∧ w'.cell? ⟨N + 1, 4, none⟩ = some (.int .u32 (e : Int)) ∧ w'.cell? ⟨N + 1, 5, none⟩ = some (.int .u32 (f : Int)) ∧ w'.cell? ⟨N + 1, 6, none⟩ = some (.int .u32 (g : Int)) ∧ w'.cell? ⟨N + 1, 7, none⟩ = some (.int .u32 (z : Int)) ∧ w'.cell? ⟨1, k, none⟩ = some (.int .u32 (r : Int)) ∧ w'.cell? ⟨N, k, none⟩ = some (.int .u32 (x : Int)))
      (first | exact ⟨c0, c1, c2, c3, c4, c5, c6, c7, hr, hwk⟩ | exact ⟨Q4.cell 0 rfl, Q4.cell 1 rfl, Q4.cell 2 rfl, Q4.cell 3 rfl, Q4.cell 4 rfl, Q4.cell 5 rfl, Q4.cell 6 rfl, Q4.cell 7 rfl, hr4, hw4⟩)
      (first
        | (go_at_call 108; refine (turns_ok [a, b, c, d, e, f, g, z] m _ HW8.out bm).mono ?_; rintro e1 w4 ⟨rfl, hb4⟩; have Q4 := K4.drew.step hb4; have hr4 := (hb4.cell (p := ⟨1, k, none⟩) (by have := K4.lt; show 1 < _; simp; omega)).trans hr; have hw4 := (hb4.cell (p := ⟨N, k, none⟩) (by have := K4.lt; show N < _; simp; omega)).trans hwk))
    have J1 := K1.drew.step hb4
    have J2 := K2.drew.step hb4
    have J3 := K3.drew.step hb4
    have HB4 := (show Hid _ from HB.out.drew.trans (hb4.mono (by have := HB.out.size; show P ≤ wr.heap.size; omega)))
    have J := (show Hid _ from And.intro J1 (And.intro J2 J3))
    have b1 := (show TT1 [a, b, c, d, e, f, g, z] m < 4294967296 from Nat.mod_lt _ (by omega))
    have b2 := (show TT2 [a, b, c, d, e, f, g, z] < 4294967296 from Nat.mod_lt _ (by omega))
    have HR : Hid (rnd [a, b, c, d, e, f, g, z] m = [(TT1 [a, b, c, d, e, f, g, z] m + TT2 [a, b, c, d, e, f, g, z]) % 4294967296, a, b, c, (d + TT1 [a, b, c, d, e, f, g, z] m) % 4294967296, e, f, g]) := rfl
    generalize TT1 [a, b, c, d, e, f, g, z] m = t1 at *
    generalize TT2 [a, b, c, d, e, f, g, z] = t2 at *
    clear K K1 K2 K3 K4 hr hwk J1 J2 J3 HB hb4 hr4 hw4 c0 c1 c2 c3 c4 c5 c6 c7 em em2
    obtain ⟨w5, hcopy, Q5, U5⟩ := copy8 a b c d e f g z Q4.drew
    clear Q4
    have J5 : Hid (VA w5 P (cw ss) 145 ∧ VA w5 (P + 1) (cw (List.replicate 8 0)) 145 ∧ VA w5 N (cw W) 155) := ⟨J.out.1.drew.upd U5 (by omega), J.out.2.1.drew.upd U5 (by omega), J.out.2.2.drew.upd U5 (by omega)⟩
    have HB5 := (show Hid _ from U5.bel HB4.out.drew (by omega))
    have c0 := Q5.cell 0 (v := .int .u32 (a : Int)) rfl
    have c4 := Q5.cell 4 (v := .int .u32 (d : Int)) rfl
    have h0 := Q5.free 0
    have h4 := Q5.free 4
    have HQ := (show Hid _ from Q5)
    clear Q5 U5 J HB4
    go_wp2_with fail
    go_region
    go_wp2_with fail
    rw [show ((d : Int) + (t1 : Int)) % 4294967296 = (((d + t1) % 4294967296 : Nat) : Int) by omega, show ((t1 : Int) + (t2 : Int)) % 4294967296 = (((t1 + t2) % 4294967296 : Nat) : Int) by omega]
    obtain ⟨j1, j2, j3⟩ := J5.out
    refine ⟨⟨k + 1, by omega, by go_num, (HB5.out.setCell (p := ⟨N + 1, 4, none⟩) (by show P ≤ N + 1; omega) _).setCell (p := ⟨N + 1, 0, none⟩) (by show P ≤ N + 1; omega) _, (j1.set_other (by omega) _ _).set_other (by omega) _ _, (j2.set_other (by omega) _ _).set_other (by omega) _ _, (j3.set_other (by omega) _ _).set_other (by omega) _ _, ?_⟩, by simp [intOf]; omega⟩
    rw [HE.out, HR.out]
    exact (HQ.out.set 4 _).set 0 _
end Go.Proofs.YtkmdegmpffgplaaGreatDoor.pk
