/- The document's roots: the contract of Roots; the program's Roots; the walk of SumRoots. -/
import Derived.Test.YtlhlmclogfmhmaaDoorSn
namespace Go.Proofs.YtlhlmclogfmhmaaDoor
open Go.RowKit
set_option linter.unusedVariables false

/-- 1, and the first 64 primes -/
def pl : List Nat := [1, 2, 3, 5, 7, 11, 13, 17, 19, 23, 29, 31, 37, 41, 43, 47, 53, 59, 61, 67, 71, 73, 79, 83, 89, 97, 101, 103, 107, 109, 113, 127, 131, 137, 139, 149, 151, 157, 163, 167, 173, 179, 181, 191, 193, 197, 199, 211, 223, 227, 229, 233, 239, 241, 251, 257, 263, 269, 271, 277, 281, 283, 293, 307, 311]
/-- the cube roots, times 2 to the 32 -/
def rr : List Nat := [5411319704, 6194414737, 7344290767, 8215976869, 9551921755, 10098905585, 11043570340, 11460697813, 12214315672, 13195500289, 13492127166, 14311783875, 14809980276, 15046980094, 15499789991, 16133124468, 16720292289, 16907126662, 17444216262, 17784676812, 17950125167, 18429019306, 18734950876, 19175934170, 19734090066, 20001703533, 20132865992, 20390182855, 20516441075, 20764397895, 21588763473, 21813078375, 22141143685, 22248366392, 22769593852, 22871018771, 23170020180, 23461497531, 23651862830, 23931792517, 24205322401, 24295138891, 24734567280, 24820601251, 24990902297, 25075189284, 25569408389, 26045227120, 26200031510, 26276752392, 26428864332, 26653801653, 26727943347, 27092625994, 27306805839, 27517677555, 27725365998, 27793908591, 27997534228, 28131656200, 28198240250, 28526537963, 28973835255, 29099129074]
set_option maxRecDepth 100000 in
theorem pl_between : (List.range 64).all (fun k => (List.range 312).all (fun m => !(decide (pl.getD k 0 < m) && decide (m < pl.getD (k + 1) 0)) || !prB m)) = true := by decide +kernel
set_option maxRecDepth 100000 in
theorem pl_prime : (List.range 64).all (fun k => prB (pl.getD (k + 1) 0) && decide (pl.getD (k + 1) 0 ≤ 311) && decide (pl.getD k 0 < pl.getD (k + 1) 0)) = true := by decide +kernel
set_option maxRecDepth 100000 in
theorem rr_fit : (List.range 64).all (fun k => decide (rr.getD k 0 * rr.getD k 0 * rr.getD k 0 ≤ pl.getD (k + 1) 0 * 2 ^ 96) && decide (pl.getD (k + 1) 0 * 2 ^ 96 < (rr.getD k 0 + 1) * (rr.getD k 0 + 1) * (rr.getD k 0 + 1)) && decide (rr.getD k 0 < 68719476736) && decide (rr.getD k 0 % 4294967296 = rts.getD k 0)) = true := by decide +kernel
theorem pl_at {k : Nat} (h : k < 64) : prB (pl.getD (k + 1) 0) = true ∧ pl.getD (k + 1) 0 ≤ 311 ∧ pl.getD k 0 < pl.getD (k + 1) 0 := by
  have := List.all_eq_true.1 pl_prime k (by simp; omega)
  simpa [and_assoc] using this
theorem pl_not {k m : Nat} (h : k < 64) (h1 : pl.getD k 0 < m) (h2 : m < pl.getD (k + 1) 0) : prB m = false := by
  have h3 := (pl_at h).2.1
  have := List.all_eq_true.1 (List.all_eq_true.1 pl_between k (by simp; omega)) m (by simp; omega)
  rw [decide_eq_true h1, decide_eq_true h2] at this
  simpa using this
theorem rr_at {k : Nat} (h : k < 64) : rr.getD k 0 * rr.getD k 0 * rr.getD k 0 ≤ pl.getD (k + 1) 0 * 2 ^ 96 ∧ pl.getD (k + 1) 0 * 2 ^ 96 < (rr.getD k 0 + 1) * (rr.getD k 0 + 1) * (rr.getD k 0 + 1) ∧ rr.getD k 0 < 68719476736 ∧ rr.getD k 0 % 4294967296 = rts.getD k 0 := by
  have := List.all_eq_true.1 rr_fit k (by simp; omega)
  rw [Bool.and_eq_true, Bool.and_eq_true, Bool.and_eq_true] at this
  exact ⟨of_decide_eq_true this.1.1.1, of_decide_eq_true this.1.1.2, of_decide_eq_true this.1.2, of_decide_eq_true this.2⟩
def rk : Nat → List Nat
  | 0 => List.replicate 64 0
  | k + 1 => (rk k).set k (rts.getD k 0)
theorem rk_len : ∀ k, (rk k).length = 64
  | 0 => by simp [rk]
  | k + 1 => by simp [rk, rk_len k]
set_option maxRecDepth 100000 in
theorem rk_all : rk 64 = rts := by decide +kernel
set_option maxHeartbeats 1000000 in
set_option maxRecDepth 100000 in
theorem rroots_ok (w : World) :
    Calls Tryd.prog 17 #[] w fun e w' => e = .returned (.agg (cw rts).toArray) ∧ Below w.heap.size w w' := by
  go_enter Tryd.func17, Tryd.ntmps17
  go_wp2_with fail
  go_loopw [2, 4] (fun s i wr => ∃ k : Nat, k ≤ 64 ∧ i = .int .i64 k ∧ s = .int .u64 ((pl.getD k 0 : Nat) : Int) ∧ Below w.heap.size w wr ∧ Hid (VA wr w.heap.size (cw (List.replicate 64 0)) 33 ∧ VA wr (w.heap.size + 1) (cw (rk k)) 33)) (fun _ i _ => 64 - (intOf i).toNat)
  case atStart =>
    have A2 := va_new (w.alloc (.cells (cw (List.replicate 64 0)).toArray 33)) (cw (List.replicate 64 0)) 33
    rw [World.size_alloc] at A2
    exact ⟨0, by omega, rfl, rfl, ((Below.refl _ _).alloc (Nat.le_refl _) _).alloc (by simp) _, (va_new w (cw (List.replicate 64 0)) 33).alloc _, A2⟩
  case round =>
    obtain ⟨k, hk, rfl, rfl, hbel, V⟩ := hrel
    have HB := (show Hid _ from hbel)
    clear hbel
    by_cases hk64 : k = 64
    · subst hk64
      rw [show ((64 : Nat) : Int) = 64 from rfl]
      generalize ((pl.getD 64 0 : Nat) : Int) = pz at *
      go_wp2_with (first
        | (refine ldA rfl 33 _ rfl (w.heap.size + 1) (by rfl) _ _ V.out.2 64 _ Tryd.underlying33 (info33.trans (by rw [cw_len, rk_len])) ?_)
        | (refine stA rfl 33 _ _ rfl w.heap.size (by rfl) _ (cw (rk 64)) (by rfl) _ V.out.1 (info33.trans (by rw [cw_len, rk_len])) (by rw [cw_len, cw_len, rk_len]; simp) (fun v hv => cw_one hv) ?_; intro w3 R U))
      refine bodyPost_ret (v := .agg (cw (rk 64)).toArray) ?_ rfl ⟨by rw [rk_all], U.bel HB.out (Nat.le_refl _)⟩
      have hld := run_loadVar_row (P := Tryd.prog) w3 w.heap.size 33 33 _ (0, 0) _ R.blk Tryd.underlying33 rfl (info33.trans (by rw [List.size_toArray, cw_len, rk_len]))
      simp [results, Tryd.results17, asAddr, hld, Act.put]
    have hk' : k < 64 := by omega
    obtain ⟨q1, q2, q3⟩ := pl_at hk'
    obtain ⟨r1, r2, r3, r4⟩ := rr_at hk'
    have HR := (show Hid _ from And.intro r1 (And.intro r2 (And.intro r3 r4)))
    have HQ := (show Hid _ from q1)
    have HN : Hid (∀ m, pl.getD k 0 < m → m < pl.getD (k + 1) 0 → prB m = false) := fun m h1 h2 => pl_not hk' h1 h2
    have HP1 : Hid (pl.getD (k + 1) 0 = pl.getD (k + 1) 0) := rfl
    have bt := getD_small rts_small k
    have HE : Hid (rk (k + 1) = (rk k).set k (rts.getD k 0)) := rfl
    clear r1 r2 r3 r4 q1
    obtain ⟨p1, hp1⟩ : ∃ p, p = pl.getD (k + 1) 0 := ⟨_, rfl⟩
    have HPP := (show Hid _ from hp1)
    rw [← hp1] at q2 q3 HR HQ HN
    generalize pl.getD k 0 = p0 at *
    generalize rr.getD k 0 = r at *
    generalize rts.getD k 0 = y at *
    clear hp1 HP1
    have d9 : decide ((k : Int) < 64) = true := decide_eq_true (by omega)
    go_wp2_with fail
    go_loopw [2] (fun s w2 => ∃ m : Nat, p0 < m ∧ m ≤ p1 ∧ s = .int .u64 m ∧ w2 = wr) (fun s _ => 400 - (intOf s).toNat)
    case atStart => exact ⟨p0 + 1, by omega, by omega, by go_num, rfl⟩
    case round =>
      obtain ⟨m, hm1, hm2, rfl, rfl⟩ := hrel
      by_cases hmp : m = p1
      · subst hmp
        go_wp2_with fail
        refine (prime_ok m _ (by omega)).mono ?_
        rintro e w3 ⟨rfl, rfl⟩
        rw [HQ.out]
        go_wp2_with fail
        refine (root_ok m r _ _ (by omega) rfl HR.out.1 HR.out.2.1 HR.out.2.2.1).mono ?_
        rintro e w4 ⟨rfl, b4⟩
        rw [HR.out.2.2.2]
        have V4 := (show Hid _ from And.intro (V.out.1.step b4) (V.out.2.step b4))
        have B4 := (show Hid _ from HB.out.trans (b4.mono HB.out.size))
        have c1 := V4.out.2.cell k (cw_get _ k (by rw [rk_len]; exact hk'))
        have f1 := V4.out.2.free k
        clear b4 V HB
        go_wp2_with fail
        refine ⟨⟨k + 1, by omega, by go_num, by rw [← HPP.out], B4.out.setCell (p := ⟨w.heap.size + 1, k, none⟩) (by simp) _, V4.out.1.set_other (by omega) _ _, ?_⟩, by simp [intOf]; omega⟩
        have := V4.out.2.set k (.int .u32 (y : Int))
        rw [← cw_set, ← HE.out] at this
        exact this
      · have hf := HN.out m hm1 (by omega)
        go_wp2_with fail
        refine (prime_ok m _ (by omega)).mono ?_
        rintro e w3 ⟨rfl, rfl⟩
        rw [hf]
        clear hf
        go_wp2_with fail
        exact ⟨⟨m + 1, by omega, by omega, by go_num, trivial⟩, by simp [intOf]; omega⟩
set_option maxHeartbeats 1000000 in
set_option maxRecDepth 100000 in
theorem sroots_ok (w : World) (T : Tb w) :
    Calls Tryd.prog 16 #[] w fun e w' => e = .returned (.agg (cw rts).toArray) ∧ Below w.heap.size w w' := by
  have hw1 := T.lt
  have F0 : Hid ((w.alloc (.cells (cw (List.replicate 64 0)).toArray 33)).rangeAt 1 0 (cw rts)) := fun j u hu => by
    have hj : j < 64 := by have := (List.getElem?_eq_some_iff.1 hu).1; rwa [cw_len] at this
    rw [Nat.zero_add, World.cell?_alloc_lt _ _ _ (by show 1 < w.heap.size; omega), T.roots j hj, ← cw_get rts j hj, hu]
  clear T
  go_enter Tryd.func16, Tryd.ntmps16
  go_wp2_with (first
    | (refine wpList_load_mid rfl 33 _ rfl 1 0 (by rfl) _ _ F0.out Tryd.underlying33 rfl (info33.trans rfl) ?_)
    | (refine stA rfl 33 _ _ rfl w.heap.size (by rfl) (cw (List.replicate 64 0)) (cw rts) (by rfl) 33 (va_new w (cw (List.replicate 64 0)) 33) (info33.trans rfl) rfl (fun v hv => cw_one hv) ?_; intro w1 V1 U1))
  refine bodyPost_ret (v := .agg (cw rts).toArray) ?_ rfl ⟨rfl, U1.bel ((Below.refl w.heap.size w).alloc (Nat.le_refl _) (.cells (cw (List.replicate 64 0)).toArray 33)) (Nat.le_refl _)⟩
  have hld := run_loadVar_row (P := Tryd.prog) w1 w.heap.size 33 33 _ (0, 0) _ V1.blk Tryd.underlying33 rfl (info33.trans rfl)
  simp [results, Tryd.results16, asAddr, hld, Act.put]
set_option maxHeartbeats 1000000 in
set_option maxRecDepth 100000 in
theorem sumRoots_walk (i : Nat) (w : World) (T : Tb w) (hi : i ≤ 255) :
    Calls Tryd.prog 4 #[.int .u8 i] w fun e w' => e = .returned (.bool true) ∧ Below w.heap.size w w' := by
  have HT := (show Hid _ from T)
  have hw1 := T.lt
  clear T
  go_enter Tryd.func4, Tryd.ntmps4
  go_wp2_with fail
  refine (sroots_ok _ HT.out).mono ?_
  rintro e w1 ⟨rfl, b1⟩
  have B1 := (show Hid _ from b1)
  clear b1
  obtain ⟨zs, hzs⟩ : ∃ zs, zs = rts := ⟨_, rfl⟩
  have hzl : zs.length = 64 := by rw [hzs]; rfl
  have HZ := (show Hid _ from hzs)
  rw [← hzs]
  clear hzs
  go_wp2_with (first
    | (refine stA rfl 33 _ _ rfl w1.heap.size (by rfl) (cw (List.replicate 64 0)) (cw zs) (by rfl) 33 (va_new w1 (cw (List.replicate 64 0)) 33) (info33.trans (by rw [cw_len, hzl])) (by rw [cw_len, cw_len, hzl]; simp) (fun v hv => cw_one hv) ?_; intro w2 V2 U2))
  have B2 := (show Hid _ from U2.bel (B1.out.alloc B1.out.size (.cells (cw (List.replicate 64 0)).toArray 33)) B1.out.size)
  refine (rroots_ok _).mono ?_
  rintro e w3 ⟨rfl, b3⟩
  rw [← HZ.out]
  have V3 := (show Hid _ from V2.step b3)
  have B3 := (show Hid _ from B2.out.trans (b3.mono B2.out.size))
  have l1 := V2.lt
  have l3 := b3.size
  clear V2 U2 b3 B1 B2
  go_wp2_with (first
    | (refine stA rfl 33 _ _ rfl w3.heap.size (by rfl) (cw (List.replicate 64 0)) (cw zs) (by rfl) 33 (va_new w3 (cw (List.replicate 64 0)) 33) (info33.trans (by rw [cw_len, hzl])) (by rw [cw_len, cw_len, hzl]; simp) (fun v hv => cw_one hv) ?_; intro w4 V4 U4))
  have B4 := (show Hid _ from U4.bel (B3.out.alloc B3.out.size (.cells (cw (List.replicate 64 0)).toArray 33)) B3.out.size)
  have V5 := (show Hid _ from (V3.out.alloc (.cells (cw (List.replicate 64 0)).toArray 33)).upd U4 (by omega))
  have V6 := (show Hid _ from V4)
  obtain ⟨q, hq⟩ : ∃ q, q = i % 64 := ⟨_, rfl⟩
  have hq2 : q < 64 := by omega
  have e1 : (i : Int) % 64 = (q : Int) := by omega
  have e2 : (i : Int).tmod 64 = (q : Int) := by rw [Int.tmod_eq_emod_of_nonneg (by omega)]; omega
  have c1 := V5.out.cell q (cw_get zs q (by omega))
  have c2 := V6.out.cell q (cw_get zs q (by omega))
  have d1 : (0 : Int) ≤ (q : Int) := by omega
  have d2 : (q : Int) < 64 := by omega
  have G4 := (show Hid _ from V4.lt)
  have G5 := (show Hid _ from V5.out.lt)
  clear V4 U4 V3 hq B3 l1 l3
  generalize zs.getD q 0 = y at *
  generalize w3.heap.size = g3 at *
  generalize w1.heap.size = g at *
  go_region_held3 (fun w' => w'.cell? ⟨g, q, none⟩ = some (.int .u32 (y : Int)) ∧ w'.cell? ⟨g3, q, none⟩ = some (.int .u32 (y : Int)))
    (first | exact ⟨c1, c2⟩ | exact ⟨(b7.cell (p := ⟨g, q, none⟩) G5.out).trans c1, (b7.cell (p := ⟨g3, q, none⟩) G4.out).trans c2⟩)
    (first | (go_at_call 7; refine (awake_ok _ (HT.out.step B4.out.drew (by omega))).mono ?_; rintro e w7 ⟨rfl, b7⟩))
  have B7 := (show Hid _ from B4.out.drew.trans (b7.mono B4.out.drew.size))
  clear b7
  go_wp2_with fail
  go_ret
  exact ⟨rfl, B7.out⟩
end Go.Proofs.YtlhlmclogfmhmaaDoor
