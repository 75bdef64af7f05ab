/- snap XX: SnapSafe's walk. -/
import Derived.Test.YtgabklihgjjjeaaGreatDoorPdc
import Derived.Test.YtgabklihgjjjeaaGreatDoorPdf
import Derived.Test.YtgabklihgjjjeaaGreatDoorGx
import Derived.Test.YtgabklihgjjjeaaGreatDoorGy
namespace Go.Proofs.YtgabklihgjjjeaaGreatDoor
open Go.RowKit Go.Maps Go.Sort Go.Shelf pk
set_option linter.unusedVariables false
set_option linter.unusedSimpArgs false
set_option maxRecDepth 100000 in
set_option maxHeartbeats 4000000 in
theorem safe_walk (v1 : Value) (ps : List Nat) (v2 : Value) (qs : List Nat) (v3 : Value) (ss : List Nat) (at6 : Nat) (dn : Bool) (kv : Value) (ks : List Bool) (w : World) (hT : Pt10 w) (h1 : Bs w v1 ps) (h2 : Bs w v2 qs) (h3 : Bs w v3 ss) (hat : at6 < 256) (hk : Bl w kv ks) (hkl : ks.length ≤ 140737488351232) (hno : ∀ n c, kv = .slice none n c → c = 0) :
    Calls Tryz.prog 4 #[v1, v2, v3, .int .u8 (at6 : Int), .agg #[.bool dn, kv]] w fun e w' => e = .returned (.bool true) ∧ Below w.heap.size w w' := by
  have HT : Hid (Pt10 w) := hT
  have HP := (show Hid _ from h1)
  have HQ := (show Hid _ from h2)
  have HS := (show Hid _ from h3)
  have HKS : Hid (Bl w kv ks) := hk
  have HNO : Hid (∀ n c, kv = .slice none n c → c = 0) := hno
  obtain ⟨_, pa, pc, rfl, hp1, hp2, _⟩ := h1
  obtain ⟨_, qa, qc, rfl, hq1, hq2, _⟩ := h2
  obtain ⟨_, sa, sc, rfl, hs1, hs2, _⟩ := h3
  obtain ⟨ka, kc, hkv, _⟩ := hk.form
  clear hk hno hT
  obtain ⟨L, hL⟩ : ∃ L, L = min ps.length 500 := ⟨_, rfl⟩
  have HPC : Hid (∀ w1, Below w.heap.size w w1 → Bs w1 (.slice pa L pc) (ps.take L)) := fun w1 b1 => (HP.out.step b1).cut L (by omega)
  have HPL : Hid ((ps.take L).length = L) := (show (ps.take L).length = L by rw [List.length_take]; omega)
  obtain ⟨xs, hxs⟩ : ∃ xs, xs = ps.take L := ⟨_, rfl⟩
  rw [← hxs] at HPL HPC
  generalize hn1 : ps.length = pl at *
  have hmin1 : ∀ w', (Builtin.min_ #[3, 3] 3 #[.int .i64 (pl : Int), .int .i64 500]).run Tryz.prog w' = .ok (.int .i64 (L : Int)) w' := fun w' => cut_min w' pl 500 L (by omega) hL
  have d11 : (L : Int) ≤ (pl : Int) := by omega
  have d12 : (L : Int) ≤ (pc : Int) := by omega
  have d13 : L ≤ 500 := by omega
  clear hn1 hxs hL HP
  obtain ⟨M, hM⟩ : ∃ M, M = min qs.length 500 := ⟨_, rfl⟩
  have HQC : Hid (∀ w1, Below w.heap.size w w1 → Bs w1 (.slice qa M qc) (qs.take M)) := fun w1 b1 => (HQ.out.step b1).cut M (by omega)
  have HQL : Hid ((qs.take M).length = M) := (show (qs.take M).length = M by rw [List.length_take]; omega)
  obtain ⟨ys, hys⟩ : ∃ ys, ys = qs.take M := ⟨_, rfl⟩
  rw [← hys] at HQL HQC
  generalize hn2 : qs.length = ql at *
  have hmin2 : ∀ w', (Builtin.min_ #[3, 3] 3 #[.int .i64 (ql : Int), .int .i64 500]).run Tryz.prog w' = .ok (.int .i64 (M : Int)) w' := fun w' => cut_min w' ql 500 M (by omega) hM
  have d21 : (M : Int) ≤ (ql : Int) := by omega
  have d22 : (M : Int) ≤ (qc : Int) := by omega
  have d23 : M ≤ 500 := by omega
  clear hn2 hys hM HQ
  obtain ⟨N, hN⟩ : ∃ N, N = min ss.length 500 := ⟨_, rfl⟩
  have HSC : Hid (∀ w1, Below w.heap.size w w1 → Bs w1 (.slice sa N sc) (ss.take N)) := fun w1 b1 => (HS.out.step b1).cut N (by omega)
  have HSL : Hid ((ss.take N).length = N) := (show (ss.take N).length = N by rw [List.length_take]; omega)
  obtain ⟨zs, hzs⟩ : ∃ zs, zs = ss.take N := ⟨_, rfl⟩
  rw [← hzs] at HSL HSC
  generalize hn3 : ss.length = sl at *
  have hmin3 : ∀ w', (Builtin.min_ #[3, 3] 3 #[.int .i64 (sl : Int), .int .i64 500]).run Tryz.prog w' = .ok (.int .i64 (N : Int)) w' := fun w' => cut_min w' sl 500 N (by omega) hN
  have d31 : (N : Int) ≤ (sl : Int) := by omega
  have d32 : (N : Int) ≤ (sc : Int) := by omega
  have d33 : N ≤ 500 := by omega
  clear hn3 hzs hN HS
  have FB := (show Hid _ from va_new w [.bool dn, kv] 36)
  have B0 := (show Hid _ from (Below.refl w.heap.size w).alloc (Nat.le_refl _) (.cells #[.bool dn, kv] 36))
  subst hkv
  go_enter Tryz.func4, Tryz.ntmps4
  go_wp2_with fail
  refine (awake_ok _ (HT.out.on B0.out)).mono ?_
  rintro e w1 ⟨rfl, b1⟩
  have HB1 : Hid (Below w.heap.size w w1) := B0.out.trans (b1.mono B0.out.size)
  have FB1 : Hid (VA w1 w.heap.size [.bool dn, .slice ka ks.length kc] 36) := FB.out.step b1
  clear b1 FB B0
  go_upto_region 3 with fail
  refine wp_region_noPanic ?_
  refine wp_region_held_drew (S := fun V => True) (by kernel_rfl) trivial ?_
  intro hHeld
  have HBd : Hid (Below w1.heap.size w1 w1.drew) := (Below.refl _ _).drew
  generalize w1.drew = wd at *
  refine takeD 0 19 (.slice pa pl pc) (by exact rfl) rfl (by kernel_rfl) (by kernel_rfl) (by kernel_rfl) (fun _ _ _ h => h) (Or.inl ⟨by rfl, ?_⟩) (by assumption) ?_
  · intro wq hS
    go_simp
  try simp only [Act.put, List.setIfInBounds_toArray, List.set_cons_zero, List.set_cons_succ]
  refine takeD 1 20 (.slice pa pl pc) (by exact rfl) rfl (by kernel_rfl) (by kernel_rfl) (by kernel_rfl) (fun _ _ _ h => h) (Or.inl ⟨by rfl, ?_⟩) (by assumption) ?_
  · intro wq hS
    go_simp
  try simp only [Act.put, List.setIfInBounds_toArray, List.set_cons_zero, List.set_cons_succ]
  refine takeD 2 21 (.int .i64 (pl : Int)) (by exact rfl) rfl (by kernel_rfl) (by kernel_rfl) (by kernel_rfl) (fun _ _ _ h => h) (Or.inl ⟨by rfl, ?_⟩) (by assumption) ?_
  · intro wq hS
    go_simp
  try simp only [Act.put, List.setIfInBounds_toArray, List.set_cons_zero, List.set_cons_succ]
  refine takeD 3 22 (.int .i64 (L : Int)) (by exact rfl) rfl (by kernel_rfl) (by kernel_rfl) (by kernel_rfl) (fun _ _ _ h => h) (Or.inl ⟨by rfl, ?_⟩) (by assumption) ?_
  · intro wq hS
    have hm := hmin1 wq
    go_simp
  try simp only [Act.put, List.setIfInBounds_toArray, List.set_cons_zero, List.set_cons_succ]
  refine takeD 4 23 (.slice pa L pc) (by exact rfl) rfl (by kernel_rfl) (by kernel_rfl) (by kernel_rfl) (fun _ _ _ h => h) (Or.inl ⟨by rfl, ?_⟩) (by assumption) ?_
  · intro wq hS
    go_simp
  try simp only [Act.put, List.setIfInBounds_toArray, List.set_cons_zero, List.set_cons_succ]
  refine takeD 5 24 (.slice qa ql qc) (by exact rfl) rfl (by kernel_rfl) (by kernel_rfl) (by kernel_rfl) (fun _ _ _ h => h) (Or.inl ⟨by rfl, ?_⟩) (by assumption) ?_
  · intro wq hS
    go_simp
  try simp only [Act.put, List.setIfInBounds_toArray, List.set_cons_zero, List.set_cons_succ]
  refine takeD 6 25 (.slice qa ql qc) (by exact rfl) rfl (by kernel_rfl) (by kernel_rfl) (by kernel_rfl) (fun _ _ _ h => h) (Or.inl ⟨by rfl, ?_⟩) (by assumption) ?_
  · intro wq hS
    go_simp
  try simp only [Act.put, List.setIfInBounds_toArray, List.set_cons_zero, List.set_cons_succ]
  refine takeD 7 26 (.int .i64 (ql : Int)) (by exact rfl) rfl (by kernel_rfl) (by kernel_rfl) (by kernel_rfl) (fun _ _ _ h => h) (Or.inl ⟨by rfl, ?_⟩) (by assumption) ?_
  · intro wq hS
    go_simp
  try simp only [Act.put, List.setIfInBounds_toArray, List.set_cons_zero, List.set_cons_succ]
  refine takeD 8 27 (.int .i64 (M : Int)) (by exact rfl) rfl (by kernel_rfl) (by kernel_rfl) (by kernel_rfl) (fun _ _ _ h => h) (Or.inl ⟨by rfl, ?_⟩) (by assumption) ?_
  · intro wq hS
    have hm := hmin2 wq
    go_simp
  try simp only [Act.put, List.setIfInBounds_toArray, List.set_cons_zero, List.set_cons_succ]
  refine takeD 9 28 (.slice qa M qc) (by exact rfl) rfl (by kernel_rfl) (by kernel_rfl) (by kernel_rfl) (fun _ _ _ h => h) (Or.inl ⟨by rfl, ?_⟩) (by assumption) ?_
  · intro wq hS
    go_simp
  try simp only [Act.put, List.setIfInBounds_toArray, List.set_cons_zero, List.set_cons_succ]
  refine takeD 10 29 (.slice sa sl sc) (by exact rfl) rfl (by kernel_rfl) (by kernel_rfl) (by kernel_rfl) (fun _ _ _ h => h) (Or.inl ⟨by rfl, ?_⟩) (by assumption) ?_
  · intro wq hS
    go_simp
  try simp only [Act.put, List.setIfInBounds_toArray, List.set_cons_zero, List.set_cons_succ]
  refine takeD 11 30 (.slice sa sl sc) (by exact rfl) rfl (by kernel_rfl) (by kernel_rfl) (by kernel_rfl) (fun _ _ _ h => h) (Or.inl ⟨by rfl, ?_⟩) (by assumption) ?_
  · intro wq hS
    go_simp
  try simp only [Act.put, List.setIfInBounds_toArray, List.set_cons_zero, List.set_cons_succ]
  refine takeD 12 31 (.int .i64 (sl : Int)) (by exact rfl) rfl (by kernel_rfl) (by kernel_rfl) (by kernel_rfl) (fun _ _ _ h => h) (Or.inl ⟨by rfl, ?_⟩) (by assumption) ?_
  · intro wq hS
    go_simp
  try simp only [Act.put, List.setIfInBounds_toArray, List.set_cons_zero, List.set_cons_succ]
  refine takeD 13 32 (.int .i64 (N : Int)) (by exact rfl) rfl (by kernel_rfl) (by kernel_rfl) (by kernel_rfl) (fun _ _ _ h => h) (Or.inl ⟨by rfl, ?_⟩) (by assumption) ?_
  · intro wq hS
    have hm := hmin3 wq
    go_simp
  try simp only [Act.put, List.setIfInBounds_toArray, List.set_cons_zero, List.set_cons_succ]
  refine takeD 14 33 (.slice sa N sc) (by exact rfl) rfl (by kernel_rfl) (by kernel_rfl) (by kernel_rfl) (fun _ _ _ h => h) (Or.inl ⟨by rfl, ?_⟩) (by assumption) ?_
  · intro wq hS
    go_simp
  try simp only [Act.put, List.setIfInBounds_toArray, List.set_cons_zero, List.set_cons_succ]
  refine takeD 15 0 (.slice pa L pc) (by exact rfl) rfl (by kernel_rfl) (by kernel_rfl) (by kernel_rfl) (fun _ _ _ h => h) (Or.inl ⟨by rfl, ?_⟩) (by assumption) ?_
  · intro wq hS
    go_simp
  try simp only [Act.put, List.setIfInBounds_toArray, List.set_cons_zero, List.set_cons_succ]
  refine takeD 16 1 (.slice qa M qc) (by exact rfl) rfl (by kernel_rfl) (by kernel_rfl) (by kernel_rfl) (fun _ _ _ h => h) (Or.inl ⟨by rfl, ?_⟩) (by assumption) ?_
  · intro wq hS
    go_simp
  try simp only [Act.put, List.setIfInBounds_toArray, List.set_cons_zero, List.set_cons_succ]
  refine takeD 17 2 (.slice sa N sc) (by exact rfl) rfl (by kernel_rfl) (by kernel_rfl) (by kernel_rfl) (fun _ _ _ h => h) (Or.inl ⟨by rfl, ?_⟩) (by assumption) ?_
  · intro wq hS
    go_simp
  try simp only [Act.put, List.setIfInBounds_toArray, List.set_cons_zero, List.set_cons_succ]
  refine wpAnyH_done (by kernel_rfl) ?_ _
  refine NoPanic.normal ?_
  have HBw : Hid (Below w.heap.size w wd) := HB1.out.trans (HBd.out.mono HB1.out.size)
  have HF_wd : Hid (VA wd w.heap.size [.bool dn, .slice ka ks.length kc] 36) := FB1.out.step HBd.out
  have HSW : Hid (w.heap.size ≤ wd.heap.size) := HBw.out.size
  clear hHeld hmin1 hmin2 hmin3 FB1 HBd HB1
  by_cases z1 : L = 0
  · subst z1
    go_wp2_with fail
    go_ret
    exact ⟨rfl, HBw.out⟩
  by_cases z2 : M = 0
  · subst z2
    have y1 : ¬ (L : Int) = 0 := by omega
    go_wp2_with fail
    go_ret
    exact ⟨rfl, HBw.out⟩
  by_cases z3 : N = 0
  · subst z3
    have y1 : ¬ (L : Int) = 0 := by omega
    have y2 : ¬ (M : Int) = 0 := by omega
    go_wp2_with fail
    go_ret
    exact ⟨rfl, HBw.out⟩
  have y1 : ((L : Int) == 0) = false := by simp; omega
  have y2 : ((M : Int) == 0) = false := by simp; omega
  have y3 : ((N : Int) == 0) = false := by simp; omega
  go_wp2_with fail
  refine (new_any 1000 wd (by omega) (by omega)).mono ?_
  rintro e w2 ⟨p, m, rfl, hA2, b2⟩
  have HA_w2 : Hid (DA w2 wd.heap.size p m ⟨1000, 0, 0, true, none, []⟩) := hA2
  have HB_w2 : Hid (Below w.heap.size w w2) := HBw.out.trans (b2.mono HSW.out)
  have HT_w2 : Hid (PtB wd.heap.size w2) := (ptB_of (HT.out.on HBw.out)).on b2
  have HF_w2 := (show Hid _ from HF_wd.out.step b2)
  have EW3 := (show Hid _ from wrS_idle 1000 0 3 [] xs no0 (fit_idle (by simp) (by have := cn4_500 (show xs.length ≤ 500 by rw [HPL.out]; exact d13); have e0 : totA [] = 0 := rfl; omega)))
  clear hA2 b2 HF_wd
  generalize wd.heap.size = B at *
  unfold ptr
  clear y1 y2 y3
  go_wp2_with fail
  refine (twin_ok _ xs w2 (HPC.out w2 HB_w2.out) (by rw [HPL.out]; omega)).mono ?_
  rintro e w3 ⟨⟨uw3, rfl, Ow3⟩, bw3⟩
  have HA_w3 : Hid (DA w3 B p m ⟨1000, 0, 0, true, none, []⟩) := HA_w2.out.step bw3
  have HB_w3 : Hid (Below w.heap.size w w3) := HB_w2.out.trans (bw3.mono HB_w2.out.size)
  have HT_w3 : Hid (PtB B w3) := HT_w2.out.on (bw3.mono HA_w2.out.lt)
  have HF_w3 := (show Hid _ from HF_w2.out.step bw3)
  have HOw3 := (show Hid _ from Ow3)
  clear Ow3 bw3 HA_w2 HB_w2 HT_w2 HF_w2
  go_wp2_with fail
  have CW := write_ok w3 B p m _ HA_w3.out 3 (by omega) HT_w3.out uw3 xs HOw3.out.bs HOw3.out.safe (by rw [HPL.out]; omega) (by rw [HPL.out]; omega) (by dsimp only; omega) (by dsimp only; omega)
  rw [EW3.out] at CW
  refine Calls.mono CW ?_
  rintro e w4 ⟨rfl, LL⟩
  have HA_w4 : Hid (DA w4 B p m ⟨1000, 0 + 1 + 1 + 1, 0, true, none, fsp xs⟩) := LL.1
  have HB_w4 : Hid (Below w.heap.size w w4) := HB_w3.out.trans (LL.2.2.mono HSW.out)
  have HT_w4 : Hid (PtB B w4) := HT_w3.out.on LL.2.2
  have HF_w4 := (show Hid _ from HF_w3.out.kee LL.2.1 (by unfold Dt; decide))
  clear LL HA_w3 HB_w3 HT_w3 HF_w3
  clear CW EW3 HOw3
  obtain ⟨a, ha⟩ : ∃ a, a = at6 % 6 := ⟨_, rfl⟩
  have da : (at6 : Int) % 6 = (a : Int) := by omega
  have da5 : a ≤ 5 := by omega
  clear ha
  go_wp2_with fail
  refine (arm_any w4 B p m _ HA_w4.out a (by omega)).mono ?_
  rintro e w5 ⟨he, LL⟩
  dsimp only at he LL
  rw [if_pos rfl] at he LL
  obtain rfl : e = .returned (.int .i64 0) := he
  have HA_w5 : Hid (DA w5 B p m ⟨1000, 0 + 1 + 1 + 1, a, true, none, fsp xs⟩) := LL.1
  have HB_w5 : Hid (Below w.heap.size w w5) := HB_w4.out.trans (LL.2.2.mono HSW.out)
  have HT_w5 : Hid (PtB B w5) := HT_w4.out.on LL.2.2
  have HF_w5 := (show Hid _ from HF_w4.out.kee LL.2.1 (by unfold Dt; decide))
  clear LL HA_w4 HB_w4 HT_w4 HF_w4
  clear da
  go_wp2_with fail
  refine (twin_ok _ ys w5 (HQC.out w5 HB_w5.out) (by rw [HQL.out]; omega)).mono ?_
  rintro e w6 ⟨⟨uw6, rfl, Ow6⟩, bw6⟩
  have HA_w6 : Hid (DA w6 B p m ⟨1000, 0 + 1 + 1 + 1, a, true, none, fsp xs⟩) := HA_w5.out.step bw6
  have HB_w6 : Hid (Below w.heap.size w w6) := HB_w5.out.trans (bw6.mono HB_w5.out.size)
  have HT_w6 : Hid (PtB B w6) := HT_w5.out.on (bw6.mono HA_w5.out.lt)
  have HF_w6 := (show Hid _ from HF_w5.out.step bw6)
  have HOw6 := (show Hid _ from Ow6)
  clear Ow6 bw6 HA_w5 HB_w5 HT_w5 HF_w5
  go_wp2_with fail
  have CW := write_ok w6 B p m _ HA_w6.out 8 (by omega) HT_w6.out uw6 ys HOw6.out.bs HOw6.out.safe (by rw [HQL.out]; omega) (by rw [HQL.out]; omega) (by dsimp only; omega) (by dsimp only; omega)
  have HX9 : Hid (By xs ∧ 0 < xs.length ∧ xs.length ≤ 500) := ⟨(HPC.out w6 HB_w6.out).byte, by rw [HPL.out]; omega, by rw [HPL.out]; exact d13⟩
  have HY9 : Hid (By ys ∧ 0 < ys.length ∧ ys.length ≤ 500) := ⟨(HQC.out w6 HB_w6.out).byte, by rw [HQL.out]; omega, by rw [HQL.out]; exact d23⟩
  rcases wrS_armed HX9.out.2.2 HY9.out.2.2 (0 + 1 + 1 + 1) a da5 with ⟨l, hl, EW⟩ | ⟨o', uu, gg, ho', EW, hcr⟩
  · rw [EW] at CW
    refine Calls.mono CW ?_
    rintro e w7 ⟨rfl, LL⟩
    have HA_w7 : Hid (DA w7 B p m ⟨1000, 0 + 1 + 1 + 1 + 1 + 1 + 1, l, true, none, fsc xs ys⟩) := LL.1
    have HB_w7 : Hid (Below w.heap.size w w7) := HB_w6.out.trans (LL.2.2.mono HSW.out)
    have HT_w7 : Hid (PtB B w7) := HT_w6.out.on LL.2.2
    have HF_w7 := (show Hid _ from HF_w6.out.kee LL.2.1 (by unfold Dt; decide))
    clear LL HA_w6 HB_w6 HT_w6 HF_w6
    have HM : Hid (Mid (fsc xs ys) xs ys) := mid_c HX9.out.1 HX9.out.2.1 HX9.out.2.2 HY9.out.1 HY9.out.2.1 HY9.out.2.2
    have H8 : Hid (nmS 8 ∈ nms (fsc xs ys)) := (nms_wfs (fsp xs) 8 ys (nop xs) _).2 (Or.inl rfl)
    clear CW EW HOw6
    generalize fsc xs ys = gs at *
    go_wp2_with fail
    refine Calls.mono (load_ok w7 B p m _ HA_w7.out rfl HM.out.snaps.snp (Nat.le_trans HM.out.len (by omega)) HT_w7.out _ HM.out.snaps.whl) ?_
    rintro e w8 ⟨⟨k8, u8, rfl, ⟨k1, k2, k3⟩, hbu, hsu⟩ | ⟨rfl, hno⟩, b8⟩
    rotate_left
    · exact absurd H8.out (hno 8 (by omega))
    obtain rfl : k8 = 8 := by
      have h1 := HM.out.only k8 k1 k2
      have h2 := k3 8 (by omega) H8.out
      omega
    rw [if_pos rfl] at hbu
    have HU8 : Hid (Bs w8 u8 ys) := hbu
    have HA_w8 : Hid (DA w8 B p m ⟨1000, 0 + 1 + 1 + 1 + 1 + 1 + 1, l, true, none, gs⟩) := HA_w7.out.step b8
    have HB_w8 : Hid (Below w.heap.size w w8) := HB_w7.out.trans (b8.mono HB_w7.out.size)
    have HT_w8 : Hid (PtB B w8) := HT_w7.out.on (b8.mono HA_w7.out.lt)
    clear b8 hbu hsu k1 k2 k3 H8 HA_w7 HB_w7 HT_w7 HF_w7
    go_wp2_with fail
    refine (same_ok _ _ _ _ _ HU8.out (HQC.out w8 HB_w8.out)).mono ?_
    rintro e w9 ⟨rfl, bw9⟩
    rw [decide_eq_true rfl]
    have HA_w9 : Hid (DA w9 B p m ⟨1000, 0 + 1 + 1 + 1 + 1 + 1 + 1, l, true, none, gs⟩) := HA_w8.out.step bw9
    have HB_w9 : Hid (Below w.heap.size w w9) := HB_w8.out.trans (bw9.mono HB_w8.out.size)
    have HT_w9 : Hid (PtB B w9) := HT_w8.out.on (bw9.mono HA_w8.out.lt)
    clear bw9 HA_w8 HB_w8 HT_w8
    clear HU8
    go_wp2_with fail
    refine (arm_any w9 B p m _ HA_w9.out 0 (by omega)).mono ?_
    rintro e wm ⟨he, LL⟩
    dsimp only at he LL
    rw [if_pos rfl] at he LL
    obtain rfl : e = .returned (.int .i64 0) := he
    have HA_wm : Hid (DA wm B p m ⟨1000, (0 + 1 + 1 + 1 + 1 + 1 + 1), 0, true, none, gs⟩) := LL.1
    have HB_wm : Hid (Below w.heap.size w wm) := HB_w9.out.trans (LL.2.2.mono HSW.out)
    have HT_wm : Hid (PtB B wm) := HT_w9.out.on LL.2.2
    clear LL HA_w9 HB_w9 HT_w9
    obtain ⟨o9, ho9, EW⟩ := wrS_free 1000 (0 + 1 + 1 + 1 + 1 + 1 + 1) 9 gs zs (by have := HM.out.len; omega) (by have := HM.out.tot; have := cn4_500 (show zs.length ≤ 500 by rw [HSL.out]; exact d33); omega)
    have HEW := (show Hid _ from EW)
    have HZ : Hid (Snaps (wfs (rmT gs) 9 zs) (fun i => if i = 9 then zs else if i = 8 then ys else xs) ∧ Topp (wfs (rmT gs) 9 zs) 9 ∧ (wfs (rmT gs) 9 zs).length ≤ 4) := by
      refine ⟨HM.out.snaps.rm.write (rmT_no gs) (by omega) (HSC.out wm HB_wm.out).byte (by rw [HSL.out]; omega) (by rw [HSL.out]; omega), Topp.up (fun i hi hm => ?_) (rmT_no gs) (by omega), ?_⟩
      · have := HM.out.only i hi ((rmT_nmS gs i).1 hm)
        omega
      · have h1 := len_wfs (rmT gs) 9 zs (rmT_no gs)
        have h2 := rmT_len gs
        have h3 := HM.out.len
        omega
    clear EW HM
    go_wp2_with fail
    refine (twin_ok _ zs wm (HSC.out wm HB_wm.out) (by rw [HSL.out]; omega)).mono ?_
    rintro e wn ⟨⟨un, rfl, On⟩, bn⟩
    have HA_wn : Hid (DA wn B p m ⟨1000, (0 + 1 + 1 + 1 + 1 + 1 + 1), 0, true, none, gs⟩) := HA_wm.out.step bn
    have HB_wn : Hid (Below w.heap.size w wn) := HB_wm.out.trans (bn.mono HB_wm.out.size)
    have HT_wn : Hid (PtB B wn) := HT_wm.out.on (bn.mono HA_wm.out.lt)
    have HOn := (show Hid _ from On)
    clear On bn HA_wm HB_wm HT_wm
    go_wp2_with fail
    have CW := write_ok wn B p m _ HA_wn.out 9 (by omega) HT_wn.out un zs HOn.out.bs HOn.out.safe (by rw [HSL.out]; omega) (by rw [HSL.out]; omega) (show (0 + 1 + 1 + 1 + 1 + 1 + 1) ≤ _ by omega) (show 0 ≤ _ by omega)
    rw [HEW.out] at CW
    refine Calls.mono CW ?_
    rintro e wo ⟨rfl, LL⟩
    have HA_wo : Hid (DA wo B p m ⟨1000, o9, 0, true, none, wfs (rmT gs) 9 zs⟩) := LL.1
    have HB_wo : Hid (Below w.heap.size w wo) := HB_wn.out.trans (LL.2.2.mono HSW.out)
    have HT_wo : Hid (PtB B wo) := HT_wn.out.on LL.2.2
    clear LL CW HEW HOn HA_wn HB_wn HT_wn
    generalize wfs (rmT gs) 9 zs = hs at *
    go_wp2_with fail
    refine Calls.mono (clean_ok wo B p m 1000 o9 hs HA_wo.out HZ.out.1.snp (Nat.le_trans HZ.out.2.2 (by omega)) (by omega) HT_wo.out _ HZ.out.1.whl 9 HZ.out.2.1.le HZ.out.2.1.mem HZ.out.2.1.max) ?_
    rintro e wp ⟨rfl, ks9, o10, nu, ho10, LL⟩
    have HA_wp : Hid (DA wp B p m ⟨1000, o10, 0, true, none, cfs 9 ks9 hs⟩) := LL.1
    have HB_wp : Hid (Below w.heap.size w wp) := HB_wo.out.trans (LL.2.2.mono HSW.out)
    have HT_wp : Hid (PtB B wp) := HT_wo.out.on LL.2.2
    have HG : Hid (Snaps (cfs 9 ks9 hs) (fun i => if i = 9 then zs else if i = 8 then ys else xs) ∧ Topp (cfs 9 ks9 hs) 9 ∧ (cfs 9 ks9 hs).length ≤ 4 ∧ ∀ i, i ≤ 999999999999 → nmS i ∈ nms (cfs 9 ks9 hs) → i = 9) := ⟨cfs_snaps nu HZ.out.2.1 HZ.out.1, cfs_topp nu HZ.out.2.1, Nat.le_trans (cfs_len hs 9 ks9) HZ.out.2.2, cfs_only nu⟩
    clear LL nu HZ HA_wo HB_wo HT_wo
    generalize cfs 9 ks9 hs = js at *
    go_wp2_with fail
    refine Calls.mono (load_ok wp B p m _ HA_wp.out rfl HG.out.1.snp (Nat.le_trans HG.out.2.2.1 (by omega)) HT_wp.out _ HG.out.1.whl) ?_
    rintro e wq ⟨⟨k9, u9, rfl, ⟨k1, k2, k3⟩, hbu, hsu⟩ | ⟨rfl, hno⟩, bq⟩
    rotate_left
    · exact absurd HG.out.2.1.mem (hno 9 (by omega))
    obtain rfl : k9 = 9 := HG.out.2.2.2 k9 k1 k2
    rw [if_pos rfl] at hbu
    have HU9 : Hid (Bs wq u9 zs) := hbu
    have HA_wq : Hid (DA wq B p m ⟨1000, o10, 0, true, none, js⟩) := HA_wp.out.step bq
    have HB_wq : Hid (Below w.heap.size w wq) := HB_wp.out.trans (bq.mono HB_wp.out.size)
    clear bq hbu hsu k1 k2 k3 HA_wp HB_wp HT_wp
    go_wp2_with fail
    refine (same_ok _ _ _ _ _ HU9.out (HSC.out wq HB_wq.out)).mono ?_
    rintro e wr ⟨rfl, br⟩
    rw [decide_eq_true rfl]
    have HA_wr : Hid (DA wr B p m ⟨1000, o10, 0, true, none, js⟩) := HA_wq.out.step br
    have HB_wr : Hid (Below w.heap.size w wr) := HB_wq.out.trans (br.mono HB_wq.out.size)
    clear br HU9 HA_wq HB_wq
    go_wp2_with fail
    refine Calls.mono (list_ok wr B p m _ HA_wr.out rfl HG.out.1.snp (Nat.le_trans HG.out.2.2.1 (by omega))) ?_
    rintro e ws ⟨v5, ks5, rfl, o5, nu5, b5⟩
    have hks : ks5 = [9] := nums_one nu5 HG.out.2.1 HG.out.2.2.2
    subst hks
    have HO5 := (show Hid _ from o5.sl)
    have HB_ws : Hid (Below w.heap.size w ws) := HB_wr.out.trans (b5.mono HB_wr.out.size)
    obtain ⟨la, lc, rfl, _⟩ := o5.form
    clear o5 nu5 b5 HA_wr HB_wr HG
    go_wp2_with fail
    have b6 : Below ws.heap.size ws (ws.alloc (.cells #[.int .i64 9] 2)) := (Below.refl _ _).alloc (Nat.le_refl _) _
    refine (sameInts_ok _ _ _ [9] (HO5.out.step b6) (sl1 ws 9) (by simp)).mono ?_
    rintro e wt ⟨rfl, b7⟩
    have HB7 : Hid (Below w.heap.size w wt) := HB_ws.out.trans ((b6.trans (b7.mono b6.size)).mono HB_ws.out.size)
    clear b6 b7
    go_wp2_with fail
    go_ret
    exact ⟨rfl, HB7.out⟩
  · rw [EW] at CW
    refine Calls.mono CW ?_
    rintro e w7 ⟨rfl, LL⟩
    have HA_w7 : Hid (DA w7 B p m ⟨1000, o', 0, false, uu, gg⟩) := LL.1
    have HB_w7 : Hid (Below w.heap.size w w7) := HB_w6.out.trans (LL.2.2.mono HSW.out)
    have HT_w7 : Hid (PtB B w7) := HT_w6.out.on LL.2.2
    have HF_w7 := (show Hid _ from HF_w6.out.kee LL.2.1 (by unfold Dt; decide))
    clear LL HA_w6 HB_w6 HT_w6 HF_w6
    have HM0 : Hid (Mid (doUnd ⟨1000, o', 0, false, uu, gg⟩ dn) xs ys) := mid_crash HX9.out.1 HX9.out.2.1 HX9.out.2.2 HY9.out.1 HY9.out.2.1 HY9.out.2.2 dn hcr
    have c0 := HF_w7.out.cell 0 (v := .bool dn) rfl
    have c1 := HF_w7.out.cell 1 (v := .slice ka ks.length kc) rfl
    clear CW EW HOw6 hcr
    go_wp2_with fail
    refine (fate_ok w7 dn _ ks (HKS.out.sl.step HB_w7.out).bl (by omega) HNO.out).mono ?_
    rintro e w8 ⟨⟨uf, rfl, hbl, hsf⟩, b8⟩
    have HBF : Hid (Bl w8 uf ks ∧ Safe w8 uf) := ⟨hbl, hsf⟩
    have HA_w8 : Hid (DA w8 B p m ⟨1000, o', 0, false, uu, gg⟩) := HA_w7.out.step b8
    have HB_w8 : Hid (Below w.heap.size w w8) := HB_w7.out.trans (b8.mono HB_w7.out.size)
    have HT_w8 : Hid (PtB B w8) := HT_w7.out.on (b8.mono HA_w7.out.lt)
    clear b8 hbl hsf HA_w7 HB_w7 HT_w7 HF_w7 c0 c1
    go_wp2_with fail
    refine (restart_off w8 B p m _ HA_w8.out dn uf ks HBF.out.1 (by omega) HBF.out.2 rfl).mono ?_
    rintro e w9 ⟨rfl, ns, hpm, hsrt, LL⟩
    have HND := LL.1.nodup
    have HM : Hid (Mid (stl ks ns (doUnd ⟨1000, o', 0, false, uu, gg⟩ dn)).1 xs ys) := HM0.out.stl hpm (by dsimp only at HND; rw [nms_stl] at HND; exact HND)
    have HA_w9 : Hid (DA w9 B p m ⟨1000, o', 0, true, none, (stl ks ns (doUnd ⟨1000, o', 0, false, uu, gg⟩ dn)).1⟩) := LL.1
    have HB_w9 : Hid (Below w.heap.size w w9) := HB_w8.out.trans (LL.2.2.mono HSW.out)
    have HT_w9 : Hid (PtB B w9) := HT_w8.out.on LL.2.2
    clear LL hpm hsrt HND HM0 HBF HA_w8 HB_w8 HT_w8
    generalize (stl ks ns (doUnd ⟨1000, o', 0, false, uu, gg⟩ dn)).1 = gs at *
    go_wp2_with fail
    refine Calls.mono (load_ok w9 B p m _ HA_w9.out rfl HM.out.snaps.snp (Nat.le_trans HM.out.len (by omega)) HT_w9.out _ HM.out.snaps.whl) ?_
    rintro e wa ⟨⟨k8, u8, rfl, ⟨k1, k2, k3⟩, hbu, hsu⟩ | ⟨rfl, hno⟩, b8⟩
    rotate_left
    · exact absurd HM.out.has (hno 3 (by omega))
    have h38 := HM.out.only k8 k1 k2
    have HA_wa : Hid (DA wa B p m ⟨1000, o', 0, true, none, gs⟩) := HA_w9.out.step b8
    have HB_wa : Hid (Below w.heap.size w wa) := HB_w9.out.trans (b8.mono HB_w9.out.size)
    have HT_wa : Hid (PtB B wa) := HT_w9.out.on (b8.mono HA_w9.out.lt)
    clear b8 hsu k1 k2 k3 HA_w9 HB_w9 HT_w9
    rcases h38 with rfl | rfl
    · rw [if_neg (by decide)] at hbu
      have HU8 : Hid (Bs wa u8 xs) := hbu
      clear hbu
      go_wp2_with fail
      refine (same_ok _ _ _ _ _ HU8.out (HPC.out wa HB_wa.out)).mono ?_
      rintro e wb ⟨rfl, bwb⟩
      rw [decide_eq_true rfl]
      have HA_wb : Hid (DA wb B p m ⟨1000, o', 0, true, none, gs⟩) := HA_wa.out.step bwb
      have HB_wb : Hid (Below w.heap.size w wb) := HB_wa.out.trans (bwb.mono HB_wa.out.size)
      have HT_wb : Hid (PtB B wb) := HT_wa.out.on (bwb.mono HA_wa.out.lt)
      clear bwb HA_wa HB_wa HT_wa
      clear HU8
      go_wp2_with fail
      refine (arm_any wb B p m _ HA_wb.out 0 (by omega)).mono ?_
      rintro e wm ⟨he, LL⟩
      dsimp only at he LL
      rw [if_pos rfl] at he LL
      obtain rfl : e = .returned (.int .i64 0) := he
      have HA_wm : Hid (DA wm B p m ⟨1000, o', 0, true, none, gs⟩) := LL.1
      have HB_wm : Hid (Below w.heap.size w wm) := HB_wb.out.trans (LL.2.2.mono HSW.out)
      have HT_wm : Hid (PtB B wm) := HT_wb.out.on LL.2.2
      clear LL HA_wb HB_wb HT_wb
      obtain ⟨o9, ho9, EW⟩ := wrS_free 1000 o' 9 gs zs (by have := HM.out.len; omega) (by have := HM.out.tot; have := cn4_500 (show zs.length ≤ 500 by rw [HSL.out]; exact d33); omega)
      have HEW := (show Hid _ from EW)
      have HZ : Hid (Snaps (wfs (rmT gs) 9 zs) (fun i => if i = 9 then zs else if i = 8 then ys else xs) ∧ Topp (wfs (rmT gs) 9 zs) 9 ∧ (wfs (rmT gs) 9 zs).length ≤ 4) := by
        refine ⟨HM.out.snaps.rm.write (rmT_no gs) (by omega) (HSC.out wm HB_wm.out).byte (by rw [HSL.out]; omega) (by rw [HSL.out]; omega), Topp.up (fun i hi hm => ?_) (rmT_no gs) (by omega), ?_⟩
        · have := HM.out.only i hi ((rmT_nmS gs i).1 hm)
          omega
        · have h1 := len_wfs (rmT gs) 9 zs (rmT_no gs)
          have h2 := rmT_len gs
          have h3 := HM.out.len
          omega
      clear EW HM
      go_wp2_with fail
      refine (twin_ok _ zs wm (HSC.out wm HB_wm.out) (by rw [HSL.out]; omega)).mono ?_
      rintro e wn ⟨⟨un, rfl, On⟩, bn⟩
      have HA_wn : Hid (DA wn B p m ⟨1000, o', 0, true, none, gs⟩) := HA_wm.out.step bn
      have HB_wn : Hid (Below w.heap.size w wn) := HB_wm.out.trans (bn.mono HB_wm.out.size)
      have HT_wn : Hid (PtB B wn) := HT_wm.out.on (bn.mono HA_wm.out.lt)
      have HOn := (show Hid _ from On)
      clear On bn HA_wm HB_wm HT_wm
      go_wp2_with fail
      have CW := write_ok wn B p m _ HA_wn.out 9 (by omega) HT_wn.out un zs HOn.out.bs HOn.out.safe (by rw [HSL.out]; omega) (by rw [HSL.out]; omega) (show o' ≤ _ by omega) (show 0 ≤ _ by omega)
      rw [HEW.out] at CW
      refine Calls.mono CW ?_
      rintro e wo ⟨rfl, LL⟩
      have HA_wo : Hid (DA wo B p m ⟨1000, o9, 0, true, none, wfs (rmT gs) 9 zs⟩) := LL.1
      have HB_wo : Hid (Below w.heap.size w wo) := HB_wn.out.trans (LL.2.2.mono HSW.out)
      have HT_wo : Hid (PtB B wo) := HT_wn.out.on LL.2.2
      clear LL CW HEW HOn HA_wn HB_wn HT_wn
      generalize wfs (rmT gs) 9 zs = hs at *
      go_wp2_with fail
      refine Calls.mono (clean_ok wo B p m 1000 o9 hs HA_wo.out HZ.out.1.snp (Nat.le_trans HZ.out.2.2 (by omega)) (by omega) HT_wo.out _ HZ.out.1.whl 9 HZ.out.2.1.le HZ.out.2.1.mem HZ.out.2.1.max) ?_
      rintro e wp ⟨rfl, ks9, o10, nu, ho10, LL⟩
      have HA_wp : Hid (DA wp B p m ⟨1000, o10, 0, true, none, cfs 9 ks9 hs⟩) := LL.1
      have HB_wp : Hid (Below w.heap.size w wp) := HB_wo.out.trans (LL.2.2.mono HSW.out)
      have HT_wp : Hid (PtB B wp) := HT_wo.out.on LL.2.2
      have HG : Hid (Snaps (cfs 9 ks9 hs) (fun i => if i = 9 then zs else if i = 8 then ys else xs) ∧ Topp (cfs 9 ks9 hs) 9 ∧ (cfs 9 ks9 hs).length ≤ 4 ∧ ∀ i, i ≤ 999999999999 → nmS i ∈ nms (cfs 9 ks9 hs) → i = 9) := ⟨cfs_snaps nu HZ.out.2.1 HZ.out.1, cfs_topp nu HZ.out.2.1, Nat.le_trans (cfs_len hs 9 ks9) HZ.out.2.2, cfs_only nu⟩
      clear LL nu HZ HA_wo HB_wo HT_wo
      generalize cfs 9 ks9 hs = js at *
      go_wp2_with fail
      refine Calls.mono (load_ok wp B p m _ HA_wp.out rfl HG.out.1.snp (Nat.le_trans HG.out.2.2.1 (by omega)) HT_wp.out _ HG.out.1.whl) ?_
      rintro e wq ⟨⟨k9, u9, rfl, ⟨k1, k2, k3⟩, hbu, hsu⟩ | ⟨rfl, hno⟩, bq⟩
      rotate_left
      · exact absurd HG.out.2.1.mem (hno 9 (by omega))
      obtain rfl : k9 = 9 := HG.out.2.2.2 k9 k1 k2
      rw [if_pos rfl] at hbu
      have HU9 : Hid (Bs wq u9 zs) := hbu
      have HA_wq : Hid (DA wq B p m ⟨1000, o10, 0, true, none, js⟩) := HA_wp.out.step bq
      have HB_wq : Hid (Below w.heap.size w wq) := HB_wp.out.trans (bq.mono HB_wp.out.size)
      clear bq hbu hsu k1 k2 k3 HA_wp HB_wp HT_wp
      go_wp2_with fail
      refine (same_ok _ _ _ _ _ HU9.out (HSC.out wq HB_wq.out)).mono ?_
      rintro e wr ⟨rfl, br⟩
      rw [decide_eq_true rfl]
      have HA_wr : Hid (DA wr B p m ⟨1000, o10, 0, true, none, js⟩) := HA_wq.out.step br
      have HB_wr : Hid (Below w.heap.size w wr) := HB_wq.out.trans (br.mono HB_wq.out.size)
      clear br HU9 HA_wq HB_wq
      go_wp2_with fail
      refine Calls.mono (list_ok wr B p m _ HA_wr.out rfl HG.out.1.snp (Nat.le_trans HG.out.2.2.1 (by omega))) ?_
      rintro e ws ⟨v5, ks5, rfl, o5, nu5, b5⟩
      have hks : ks5 = [9] := nums_one nu5 HG.out.2.1 HG.out.2.2.2
      subst hks
      have HO5 := (show Hid _ from o5.sl)
      have HB_ws : Hid (Below w.heap.size w ws) := HB_wr.out.trans (b5.mono HB_wr.out.size)
      obtain ⟨la, lc, rfl, _⟩ := o5.form
      clear o5 nu5 b5 HA_wr HB_wr HG
      go_wp2_with fail
      have b6 : Below ws.heap.size ws (ws.alloc (.cells #[.int .i64 9] 2)) := (Below.refl _ _).alloc (Nat.le_refl _) _
      refine (sameInts_ok _ _ _ [9] (HO5.out.step b6) (sl1 ws 9) (by simp)).mono ?_
      rintro e wt ⟨rfl, b7⟩
      have HB7 : Hid (Below w.heap.size w wt) := HB_ws.out.trans ((b6.trans (b7.mono b6.size)).mono HB_ws.out.size)
      clear b6 b7
      go_wp2_with fail
      go_ret
      exact ⟨rfl, HB7.out⟩
    · rw [if_pos rfl] at hbu
      have HU8 : Hid (Bs wa u8 ys) := hbu
      clear hbu
      go_wp2_with fail
      refine (same_ok _ _ _ _ _ HU8.out (HQC.out wa HB_wa.out)).mono ?_
      rintro e wb ⟨rfl, bwb⟩
      rw [decide_eq_true rfl]
      have HA_wb : Hid (DA wb B p m ⟨1000, o', 0, true, none, gs⟩) := HA_wa.out.step bwb
      have HB_wb : Hid (Below w.heap.size w wb) := HB_wa.out.trans (bwb.mono HB_wa.out.size)
      have HT_wb : Hid (PtB B wb) := HT_wa.out.on (bwb.mono HA_wa.out.lt)
      clear bwb HA_wa HB_wa HT_wa
      clear HU8
      go_wp2_with fail
      refine (arm_any wb B p m _ HA_wb.out 0 (by omega)).mono ?_
      rintro e wm ⟨he, LL⟩
      dsimp only at he LL
      rw [if_pos rfl] at he LL
      obtain rfl : e = .returned (.int .i64 0) := he
      have HA_wm : Hid (DA wm B p m ⟨1000, o', 0, true, none, gs⟩) := LL.1
      have HB_wm : Hid (Below w.heap.size w wm) := HB_wb.out.trans (LL.2.2.mono HSW.out)
      have HT_wm : Hid (PtB B wm) := HT_wb.out.on LL.2.2
      clear LL HA_wb HB_wb HT_wb
      obtain ⟨o9, ho9, EW⟩ := wrS_free 1000 o' 9 gs zs (by have := HM.out.len; omega) (by have := HM.out.tot; have := cn4_500 (show zs.length ≤ 500 by rw [HSL.out]; exact d33); omega)
      have HEW := (show Hid _ from EW)
      have HZ : Hid (Snaps (wfs (rmT gs) 9 zs) (fun i => if i = 9 then zs else if i = 8 then ys else xs) ∧ Topp (wfs (rmT gs) 9 zs) 9 ∧ (wfs (rmT gs) 9 zs).length ≤ 4) := by
        refine ⟨HM.out.snaps.rm.write (rmT_no gs) (by omega) (HSC.out wm HB_wm.out).byte (by rw [HSL.out]; omega) (by rw [HSL.out]; omega), Topp.up (fun i hi hm => ?_) (rmT_no gs) (by omega), ?_⟩
        · have := HM.out.only i hi ((rmT_nmS gs i).1 hm)
          omega
        · have h1 := len_wfs (rmT gs) 9 zs (rmT_no gs)
          have h2 := rmT_len gs
          have h3 := HM.out.len
          omega
      clear EW HM
      go_wp2_with fail
      refine (twin_ok _ zs wm (HSC.out wm HB_wm.out) (by rw [HSL.out]; omega)).mono ?_
      rintro e wn ⟨⟨un, rfl, On⟩, bn⟩
      have HA_wn : Hid (DA wn B p m ⟨1000, o', 0, true, none, gs⟩) := HA_wm.out.step bn
      have HB_wn : Hid (Below w.heap.size w wn) := HB_wm.out.trans (bn.mono HB_wm.out.size)
      have HT_wn : Hid (PtB B wn) := HT_wm.out.on (bn.mono HA_wm.out.lt)
      have HOn := (show Hid _ from On)
      clear On bn HA_wm HB_wm HT_wm
      go_wp2_with fail
      have CW := write_ok wn B p m _ HA_wn.out 9 (by omega) HT_wn.out un zs HOn.out.bs HOn.out.safe (by rw [HSL.out]; omega) (by rw [HSL.out]; omega) (show o' ≤ _ by omega) (show 0 ≤ _ by omega)
      rw [HEW.out] at CW
      refine Calls.mono CW ?_
      rintro e wo ⟨rfl, LL⟩
      have HA_wo : Hid (DA wo B p m ⟨1000, o9, 0, true, none, wfs (rmT gs) 9 zs⟩) := LL.1
      have HB_wo : Hid (Below w.heap.size w wo) := HB_wn.out.trans (LL.2.2.mono HSW.out)
      have HT_wo : Hid (PtB B wo) := HT_wn.out.on LL.2.2
      clear LL CW HEW HOn HA_wn HB_wn HT_wn
      generalize wfs (rmT gs) 9 zs = hs at *
      go_wp2_with fail
      refine Calls.mono (clean_ok wo B p m 1000 o9 hs HA_wo.out HZ.out.1.snp (Nat.le_trans HZ.out.2.2 (by omega)) (by omega) HT_wo.out _ HZ.out.1.whl 9 HZ.out.2.1.le HZ.out.2.1.mem HZ.out.2.1.max) ?_
      rintro e wp ⟨rfl, ks9, o10, nu, ho10, LL⟩
      have HA_wp : Hid (DA wp B p m ⟨1000, o10, 0, true, none, cfs 9 ks9 hs⟩) := LL.1
      have HB_wp : Hid (Below w.heap.size w wp) := HB_wo.out.trans (LL.2.2.mono HSW.out)
      have HT_wp : Hid (PtB B wp) := HT_wo.out.on LL.2.2
      have HG : Hid (Snaps (cfs 9 ks9 hs) (fun i => if i = 9 then zs else if i = 8 then ys else xs) ∧ Topp (cfs 9 ks9 hs) 9 ∧ (cfs 9 ks9 hs).length ≤ 4 ∧ ∀ i, i ≤ 999999999999 → nmS i ∈ nms (cfs 9 ks9 hs) → i = 9) := ⟨cfs_snaps nu HZ.out.2.1 HZ.out.1, cfs_topp nu HZ.out.2.1, Nat.le_trans (cfs_len hs 9 ks9) HZ.out.2.2, cfs_only nu⟩
      clear LL nu HZ HA_wo HB_wo HT_wo
      generalize cfs 9 ks9 hs = js at *
      go_wp2_with fail
      refine Calls.mono (load_ok wp B p m _ HA_wp.out rfl HG.out.1.snp (Nat.le_trans HG.out.2.2.1 (by omega)) HT_wp.out _ HG.out.1.whl) ?_
      rintro e wq ⟨⟨k9, u9, rfl, ⟨k1, k2, k3⟩, hbu, hsu⟩ | ⟨rfl, hno⟩, bq⟩
      rotate_left
      · exact absurd HG.out.2.1.mem (hno 9 (by omega))
      obtain rfl : k9 = 9 := HG.out.2.2.2 k9 k1 k2
      rw [if_pos rfl] at hbu
      have HU9 : Hid (Bs wq u9 zs) := hbu
      have HA_wq : Hid (DA wq B p m ⟨1000, o10, 0, true, none, js⟩) := HA_wp.out.step bq
      have HB_wq : Hid (Below w.heap.size w wq) := HB_wp.out.trans (bq.mono HB_wp.out.size)
      clear bq hbu hsu k1 k2 k3 HA_wp HB_wp HT_wp
      go_wp2_with fail
      refine (same_ok _ _ _ _ _ HU9.out (HSC.out wq HB_wq.out)).mono ?_
      rintro e wr ⟨rfl, br⟩
      rw [decide_eq_true rfl]
      have HA_wr : Hid (DA wr B p m ⟨1000, o10, 0, true, none, js⟩) := HA_wq.out.step br
      have HB_wr : Hid (Below w.heap.size w wr) := HB_wq.out.trans (br.mono HB_wq.out.size)
      clear br HU9 HA_wq HB_wq
      go_wp2_with fail
      refine Calls.mono (list_ok wr B p m _ HA_wr.out rfl HG.out.1.snp (Nat.le_trans HG.out.2.2.1 (by omega))) ?_
      rintro e ws ⟨v5, ks5, rfl, o5, nu5, b5⟩
      have hks : ks5 = [9] := nums_one nu5 HG.out.2.1 HG.out.2.2.2
      subst hks
      have HO5 := (show Hid _ from o5.sl)
      have HB_ws : Hid (Below w.heap.size w ws) := HB_wr.out.trans (b5.mono HB_wr.out.size)
      obtain ⟨la, lc, rfl, _⟩ := o5.form
      clear o5 nu5 b5 HA_wr HB_wr HG
      go_wp2_with fail
      have b6 : Below ws.heap.size ws (ws.alloc (.cells #[.int .i64 9] 2)) := (Below.refl _ _).alloc (Nat.le_refl _) _
      refine (sameInts_ok _ _ _ [9] (HO5.out.step b6) (sl1 ws 9) (by simp)).mono ?_
      rintro e wt ⟨rfl, b7⟩
      have HB7 : Hid (Below w.heap.size w wt) := HB_ws.out.trans ((b6.trans (b7.mono b6.size)).mono HB_ws.out.size)
      clear b6 b7
      go_wp2_with fail
      go_ret
      exact ⟨rfl, HB7.out⟩
end Go.Proofs.YtgabklihgjjjeaaGreatDoor
