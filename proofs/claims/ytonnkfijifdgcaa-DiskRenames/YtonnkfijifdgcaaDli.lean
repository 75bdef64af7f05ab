/- disk XXXIV: the walk of DiskRenames. -/
import Derived.Test.YtonnkfijifdgcaaDlh
namespace Go.Proofs.Ytonnkfijifdgcaa
open Go.RowKit Go.Maps Go.Sort Go.Shelf pk
set_option linter.unusedVariables false
set_option linter.unusedSimpArgs false

theorem fitA_small {fs : FS} {l : List UInt8} {bs : List Nat} {L : Nat} (hl : bs.length = L) (hL : L ≤ 300) (h1 : fs.length ≠ 64) (h2 : totA fs ≤ 90) : fitA 100 fs l (cnt bs.length) = true := fitA_of (.inr h1) (by rw [hl]; unfold cnt; omega)
set_option maxRecDepth 100000 in
set_option maxHeartbeats 4000000 in
theorem renames_walk (v : Value) (bs : List Nat) (u : Value) (cs : List Nat) (dn : Bool) (kv : Value) (ks : List Bool) (w : World) (hb : Bs w v bs) (hl : bs.length ≤ 140737488351232) (hu : Bs w u cs) (hl2 : cs.length ≤ 140737488351232) (hk : Bl w kv ks) (hkl : ks.length ≤ 140737488351232) (hno : ∀ n c, kv = .slice none n c → c = 0) :
    Calls Try.prog 5 #[v, u, .agg #[.bool dn, kv]] w fun e w' => e = .returned (.bool true) ∧ Below w.heap.size w w' := by
  have HP := (show Hid _ from hb)
  have HQ := (show Hid _ from hu)
  have HKS : Hid (Bl w kv ks) := hk
  have HNO : Hid (∀ n c, kv = .slice none n c → c = 0) := hno
  obtain ⟨hby, a, c, rfl, hc1, hc2, hno1, hli⟩ := hb
  obtain ⟨hby2, a', c', rfl, hc1', hc2', hno2, hli'⟩ := hu
  obtain ⟨ka, kc, hkv, _⟩ := hk.form
  clear hno1 hli hby hno2 hli' hby2 hk hno
  obtain ⟨L, hL⟩ : ∃ L, L = min bs.length 300 := ⟨_, rfl⟩
  have HPC : Hid (∀ w1, Below w.heap.size w w1 → Bs w1 (.slice a L c) (bs.take L)) := fun w1 b1 => (HP.out.step b1).cut L (by omega)
  have HPL : Hid ((bs.take L).length = L) := (show (bs.take L).length = L by rw [List.length_take]; omega)
  obtain ⟨xs, hxs⟩ : ∃ xs, xs = bs.take L := ⟨_, rfl⟩
  rw [← hxs] at HPL HPC
  generalize hn1 : bs.length = len at *
  have hmin1 : ∀ w', (Builtin.min_ #[3, 3] 3 #[.int .i64 (len : Int), .int .i64 300]).run Try.prog w' = .ok (.int .i64 (L : Int)) w' := fun w' => cut_min w' len 300 L (by omega) hL
  have d11 : (L : Int) ≤ (len : Int) := by omega
  have d12 : (L : Int) ≤ (c : Int) := by omega
  have d13 : L ≤ 300 := by omega
  clear hn1 hxs hL HP
  obtain ⟨M, hM⟩ : ∃ M, M = min cs.length 300 := ⟨_, rfl⟩
  have HQC : Hid (∀ w1, Below w.heap.size w w1 → Bs w1 (.slice a' M c') (cs.take M)) := fun w1 b1 => (HQ.out.step b1).cut M (by omega)
  have HQL : Hid ((cs.take M).length = M) := (show (cs.take M).length = M by rw [List.length_take]; omega)
  obtain ⟨ys, hys⟩ : ∃ ys, ys = cs.take M := ⟨_, rfl⟩
  rw [← hys] at HQL HQC
  generalize hn2 : cs.length = len' at *
  have hmin2 : ∀ w', (Builtin.min_ #[3, 3] 3 #[.int .i64 (len' : Int), .int .i64 300]).run Try.prog w' = .ok (.int .i64 (M : Int)) w' := fun w' => cut_min w' len' 300 M (by omega) hM
  have d21 : (M : Int) ≤ (len' : Int) := by omega
  have d22 : (M : Int) ≤ (c' : Int) := by omega
  have d23 : M ≤ 300 := by omega
  clear hn2 hys hM HQ
  have FB := (show Hid _ from va_new w [.bool dn, kv] 34)
  have B0 := (show Hid _ from (Below.refl w.heap.size w).alloc (Nat.le_refl _) (.cells #[.bool dn, kv] 34))
  subst hkv
  go_enter Try.func5, Try.ntmps5
  go_wp2_with (go_at_call 9; refine (awake_ok _).mono ?_; rintro e w1 ⟨rfl, b1⟩)
  have HB1 : Hid (Below w.heap.size w w1) := B0.out.trans (b1.mono B0.out.size)
  have FB1 : Hid (VA w1 w.heap.size [.bool dn, .slice ka ks.length kc] 34) := FB.out.step b1
  clear b1 FB B0
  refine wp_region_noPanic ?_
  refine wp_region_held_drew (S := fun V => True) (by kernel_rfl) trivial ?_
  intro hHeld
  have HBd : Hid (Below w1.heap.size w1 w1.drew) := (Below.refl _ _).drew
  generalize w1.drew = wd at *
  refine takeD 0 17 (.slice a len c) (by exact rfl) rfl (by kernel_rfl) (by kernel_rfl) (by kernel_rfl) (fun _ _ _ h => h) (Or.inl ⟨by rfl, ?_⟩) (by assumption) ?_
  · intro wq hS
    go_simp
  try simp only [Act.put, List.setIfInBounds_toArray, List.set_cons_zero, List.set_cons_succ]
  refine takeD 1 18 (.slice a len c) (by exact rfl) rfl (by kernel_rfl) (by kernel_rfl) (by kernel_rfl) (fun _ _ _ h => h) (Or.inl ⟨by rfl, ?_⟩) (by assumption) ?_
  · intro wq hS
    go_simp
  try simp only [Act.put, List.setIfInBounds_toArray, List.set_cons_zero, List.set_cons_succ]
  refine takeD 2 19 (.int .i64 (len : Int)) (by exact rfl) rfl (by kernel_rfl) (by kernel_rfl) (by kernel_rfl) (fun _ _ _ h => h) (Or.inl ⟨by rfl, ?_⟩) (by assumption) ?_
  · intro wq hS
    go_simp
  try simp only [Act.put, List.setIfInBounds_toArray, List.set_cons_zero, List.set_cons_succ]
  refine takeD 3 20 (.int .i64 (L : Int)) (by exact rfl) rfl (by kernel_rfl) (by kernel_rfl) (by kernel_rfl) (fun _ _ _ h => h) (Or.inl ⟨by rfl, ?_⟩) (by assumption) ?_
  · intro wq hS
    go_simp
  try simp only [Act.put, List.setIfInBounds_toArray, List.set_cons_zero, List.set_cons_succ]
  refine takeD 4 21 (.slice a L c) (by exact rfl) rfl (by kernel_rfl) (by kernel_rfl) (by kernel_rfl) (fun _ _ _ h => h) (Or.inl ⟨by rfl, ?_⟩) (by assumption) ?_
  · intro wq hS
    go_simp
  try simp only [Act.put, List.setIfInBounds_toArray, List.set_cons_zero, List.set_cons_succ]
  refine takeD 5 22 (.slice a' len' c') (by exact rfl) rfl (by kernel_rfl) (by kernel_rfl) (by kernel_rfl) (fun _ _ _ h => h) (Or.inl ⟨by rfl, ?_⟩) (by assumption) ?_
  · intro wq hS
    go_simp
  try simp only [Act.put, List.setIfInBounds_toArray, List.set_cons_zero, List.set_cons_succ]
  refine takeD 6 23 (.slice a' len' c') (by exact rfl) rfl (by kernel_rfl) (by kernel_rfl) (by kernel_rfl) (fun _ _ _ h => h) (Or.inl ⟨by rfl, ?_⟩) (by assumption) ?_
  · intro wq hS
    go_simp
  try simp only [Act.put, List.setIfInBounds_toArray, List.set_cons_zero, List.set_cons_succ]
  refine takeD 7 24 (.int .i64 (len' : Int)) (by exact rfl) rfl (by kernel_rfl) (by kernel_rfl) (by kernel_rfl) (fun _ _ _ h => h) (Or.inl ⟨by rfl, ?_⟩) (by assumption) ?_
  · intro wq hS
    go_simp
  try simp only [Act.put, List.setIfInBounds_toArray, List.set_cons_zero, List.set_cons_succ]
  refine takeD 8 25 (.int .i64 (M : Int)) (by exact rfl) rfl (by kernel_rfl) (by kernel_rfl) (by kernel_rfl) (fun _ _ _ h => h) (Or.inl ⟨by rfl, ?_⟩) (by assumption) ?_
  · intro wq hS
    go_simp
  try simp only [Act.put, List.setIfInBounds_toArray, List.set_cons_zero, List.set_cons_succ]
  refine takeD 9 26 (.slice a' M c') (by exact rfl) rfl (by kernel_rfl) (by kernel_rfl) (by kernel_rfl) (fun _ _ _ h => h) (Or.inl ⟨by rfl, ?_⟩) (by assumption) ?_
  · intro wq hS
    go_simp
  try simp only [Act.put, List.setIfInBounds_toArray, List.set_cons_zero, List.set_cons_succ]
  refine takeD 10 0 (.slice a L c) (by exact rfl) rfl (by kernel_rfl) (by kernel_rfl) (by kernel_rfl) (fun _ _ _ h => h) (Or.inl ⟨by rfl, ?_⟩) (by assumption) ?_
  · intro wq hS
    go_simp
  try simp only [Act.put, List.setIfInBounds_toArray, List.set_cons_zero, List.set_cons_succ]
  refine takeD 11 1 (.slice a' M c') (by exact rfl) rfl (by kernel_rfl) (by kernel_rfl) (by kernel_rfl) (fun _ _ _ h => h) (Or.inl ⟨by rfl, ?_⟩) (by assumption) ?_
  · intro wq hS
    go_simp
  try simp only [Act.put, List.setIfInBounds_toArray, List.set_cons_zero, List.set_cons_succ]
  refine wpAnyH_done (by kernel_rfl) ?_ _
  refine NoPanic.normal ?_
  clear hHeld hmin1 hmin2
  have HX1 : Hid (Bs wd (.slice a L c) xs) := (HPC.out w1 HB1.out).step HBd.out
  have HY1 : Hid (Bs wd (.slice a' M c') ys) := (HQC.out w1 HB1.out).step HBd.out
  have HBw : Hid (Below w.heap.size w wd) := HB1.out.trans (HBd.out.mono HB1.out.size)
  have FBd : Hid (VA wd w.heap.size [.bool dn, .slice ka ks.length kc] 34) := FB1.out.step HBd.out
  have HKd : Hid (Bl wd (.slice ka ks.length kc) ks) := (HKS.out.sl.step HBw.out).bl
  have HSw : Hid (w.heap.size ≤ wd.heap.size) := HBw.out.size
  clear HPC HQC HB1 FB1 HBd HKS
  go_wp2_with fail
  refine (new_any 100 wd (by omega) (by omega)).mono ?_
  rintro e w2 ⟨p, m, rfl, hA2, b2⟩
  have HA : Hid (DA w2 wd.heap.size p m ⟨100, 0, 0, true, none, []⟩) := hA2
  have HB : Hid (Below wd.heap.size wd w2) := b2
  clear hA2 b2
  unfold ptr
  go_wp2_with fail
  refine (twin_ok _ xs w2 (HX1.out.step HB.out) (by rw [HPL.out]; omega)).mono ?_
  rintro e w3 ⟨⟨uw3, rfl, Ow3⟩, bw3⟩
  replace HA : Hid (DA w3 wd.heap.size p m ⟨100, 0, 0, true, none, []⟩) := HA.out.step bw3
  have HOw3 := (show Hid _ from Ow3)
  replace HB : Hid (Below wd.heap.size wd w3) := HB.out.trans (bw3.mono HB.out.size)
  clear Ow3 bw3
  go_wp2_with fail
  have E := (show Hid _ from show apnd ⟨100, 0, 0, true, none, []⟩ [110, 101, 119] xs = (0, ⟨100, 1, 0, true, none, [([110, 101, 119], parts xs, 0)]⟩) from apnd_idle rfl (fitA_small HPL.out (by omega) (by decide) (by decide)))
  refine (append_any w3 wd.heap.size p m _ HA.out ⟨#[110, 101, 119]⟩ (by decide) uw3 xs HOw3.out.bs HOw3.out.safe (by rw [HPL.out]; omega) (by dsimp only; omega) (by dsimp only; omega)).mono ?_
  rintro e w4 ⟨he, hw4⟩
  rw [show (⟨#[110, 101, 119]⟩ : ByteArray).data.toList = [110, 101, 119] from rfl, E.out] at he hw4
  obtain rfl : e = .returned (.int .i64 0) := he
  replace HA : Hid (DA w4 wd.heap.size p m ⟨100, 1, 0, true, none, [([110, 101, 119], parts xs, 0)]⟩) := hw4.1
  replace HB : Hid (Below wd.heap.size wd w4) := HB.out.trans hw4.2.2
  clear hw4 E HOw3
  go_wp2_with fail
  refine (twin_ok _ ys w4 (HY1.out.step HB.out) (by rw [HQL.out]; omega)).mono ?_
  rintro e w5 ⟨⟨uw5, rfl, Ow5⟩, bw5⟩
  replace HA : Hid (DA w5 wd.heap.size p m ⟨100, 1, 0, true, none, [([110, 101, 119], parts xs, 0)]⟩) := HA.out.step bw5
  have HOw5 := (show Hid _ from Ow5)
  replace HB : Hid (Below wd.heap.size wd w5) := HB.out.trans (bw5.mono HB.out.size)
  clear Ow5 bw5
  go_wp2_with fail
  have E := (show Hid _ from show apnd ⟨100, 1, 0, true, none, [([110, 101, 119], parts xs, 0)]⟩ [111, 108, 100] ys = (0, ⟨100, 2, 0, true, none, [([110, 101, 119], parts xs, 0), ([111, 108, 100], parts ys, 0)]⟩) from apnd_idle rfl (fitA_small HQL.out (by omega) (by simp) (by simp only [totA, parts_len, HPL.out, HQL.out]; unfold cnt; omega)))
  refine (append_any w5 wd.heap.size p m _ HA.out ⟨#[111, 108, 100]⟩ (by decide) uw5 ys HOw5.out.bs HOw5.out.safe (by rw [HQL.out]; omega) (by dsimp only; omega) (by dsimp only; omega)).mono ?_
  rintro e w6 ⟨he, hw6⟩
  rw [show (⟨#[111, 108, 100]⟩ : ByteArray).data.toList = [111, 108, 100] from rfl, E.out] at he hw6
  obtain rfl : e = .returned (.int .i64 0) := he
  replace HA : Hid (DA w6 wd.heap.size p m ⟨100, 2, 0, true, none, [([110, 101, 119], parts xs, 0), ([111, 108, 100], parts ys, 0)]⟩) := hw6.1
  replace HB : Hid (Below wd.heap.size wd w6) := HB.out.trans hw6.2.2
  clear hw6 E HOw5
  go_wp2_with fail
  have E := (show Hid _ from show oper ⟨100, 2, 0, true, none, [([110, 101, 119], parts xs, 0), ([111, 108, 100], parts ys, 0)]⟩ ⟨1, [110, 101, 119], [], 0⟩ = (0, ⟨100, 3, 0, true, none, [([110, 101, 119], parts xs, (parts xs).length), ([111, 108, 100], parts ys, 0)]⟩) from oper_idle rfl (by simp) rfl)
  refine (sync_any w6 wd.heap.size p m _ HA.out ⟨#[110, 101, 119]⟩ (by decide) (by dsimp only; omega) (by dsimp only; omega)).mono ?_
  rintro e w7 ⟨he, h7⟩
  rw [show (⟨#[110, 101, 119]⟩ : ByteArray).data.toList = [110, 101, 119] from rfl, E.out] at he h7
  obtain rfl : e = .returned (.int .i64 0) := he
  replace HA : Hid (DA w7 wd.heap.size p m ⟨100, 3, 0, true, none, [([110, 101, 119], parts xs, (parts xs).length), ([111, 108, 100], parts ys, 0)]⟩) := h7.1
  replace HB : Hid (Below wd.heap.size wd w7) := HB.out.trans h7.2.2
  clear h7 E
  go_wp2_with fail
  have E := (show Hid _ from show seen ⟨100, 3, 0, true, none, [([110, 101, 119], parts xs, (parts xs).length), ([111, 108, 100], parts ys, 0)]⟩ [110, 101, 119] = (0, parts xs) from seen_on (t := ([110, 101, 119], parts xs, (parts xs).length)) rfl rfl rfl)
  refine (read_any w7 wd.heap.size p m _ HA.out ⟨#[110, 101, 119]⟩ (by decide)).mono ?_
  rintro e w8 ⟨⟨u8, he, O8⟩, b8⟩
  rw [show (⟨#[110, 101, 119]⟩ : ByteArray).data.toList = [110, 101, 119] from rfl, E.out] at he O8
  obtain rfl : e = .returned (.tuple #[u8, .int .i64 0]) := he
  replace HA : Hid (DA w8 wd.heap.size p m ⟨100, 3, 0, true, none, [([110, 101, 119], parts xs, (parts xs).length), ([111, 108, 100], parts ys, 0)]⟩) := HA.out.step b8
  replace HB : Hid (Below wd.heap.size wd w8) := HB.out.trans (b8.mono HB.out.size)
  have HW : Hid (OwnB w8 w7.heap.size u8 (flat (parts xs))) := O8
  obtain ⟨_, a8, c8, hu8, _⟩ := O8.bs
  generalize (flat (parts xs)).length = n8 at hu8
  subst hu8
  clear O8 b8 E
  go_wp2_with fail
  have E := (show Hid _ from show oper ⟨100, 3, 0, true, none, [([110, 101, 119], parts xs, (parts xs).length), ([111, 108, 100], parts ys, 0)]⟩ ⟨3, [110, 101, 119], [111, 108, 100], 0⟩ = (0, ⟨100, 4, 0, true, none, [([111, 108, 100], parts xs, (parts xs).length)]⟩) from (oper_idle rfl (fun _ => rfl) rfl).trans (by simp [doOp, lk]))
  refine (rename_any w8 wd.heap.size p m _ HA.out ⟨#[110, 101, 119]⟩ (by decide) ⟨#[111, 108, 100]⟩ (by decide) (by dsimp only; omega) (by dsimp only; omega)).mono ?_
  rintro e w9 ⟨he, h9⟩
  rw [show (⟨#[110, 101, 119]⟩ : ByteArray).data.toList = [110, 101, 119] from rfl, show (⟨#[111, 108, 100]⟩ : ByteArray).data.toList = [111, 108, 100] from rfl, E.out] at he h9
  obtain rfl : e = .returned (.int .i64 0) := he
  replace HA : Hid (DA w9 wd.heap.size p m ⟨100, 4, 0, true, none, [([111, 108, 100], parts xs, (parts xs).length)]⟩) := h9.1
  replace HB : Hid (Below wd.heap.size wd w9) := HB.out.trans h9.2.2
  replace HW : Hid (OwnB w9 w7.heap.size (.slice a8 n8 c8) (flat (parts xs))) := HW.out.kee h9.2.1
  clear h9 E
  go_wp2_with fail
  refine (arm_any w9 wd.heap.size p m _ HA.out 1 (by omega)).mono ?_
  rintro e wa ⟨rfl, ha⟩
  replace HA : Hid (DA wa wd.heap.size p m ⟨100, 4, 1, true, none, [([111, 108, 100], parts xs, (parts xs).length)]⟩) := ha.1
  replace HB : Hid (Below wd.heap.size wd wa) := HB.out.trans ha.2.2
  replace HW : Hid (OwnB wa w7.heap.size (.slice a8 n8 c8) (flat (parts xs))) := HW.out.kee ha.2.1
  clear ha
  go_wp2_with fail
  refine (twin_ok _ ys wa (HY1.out.step HB.out) (by rw [HQL.out]; omega)).mono ?_
  rintro e wb ⟨⟨uwb, rfl, Owb⟩, bwb⟩
  replace HA : Hid (DA wb wd.heap.size p m ⟨100, 4, 1, true, none, [([111, 108, 100], parts xs, (parts xs).length)]⟩) := HA.out.step bwb
  have HOwb := (show Hid _ from Owb)
  replace HB : Hid (Below wd.heap.size wd wb) := HB.out.trans (bwb.mono HB.out.size)
  replace HW : Hid (OwnB wb w7.heap.size (.slice a8 n8 c8) (flat (parts xs))) := HW.out.kee (Kee.bel bwb)
  clear Owb bwb
  go_wp2_with fail
  have E := (show Hid _ from show apnd ⟨100, 4, 1, true, none, [([111, 108, 100], parts xs, (parts xs).length)]⟩ [120] ys = (18, ⟨100, 5, 0, false, none, [([111, 108, 100], parts xs, (parts xs).length), ([120], parts ys, 0)]⟩) from apnd_last rfl (fitA_small HQL.out (by omega) (by simp) (by simp only [totA, parts_len, HPL.out, HQL.out]; unfold cnt; omega)))
  refine (append_any wb wd.heap.size p m _ HA.out ⟨#[120]⟩ (by decide) uwb ys HOwb.out.bs HOwb.out.safe (by rw [HQL.out]; omega) (by dsimp only; omega) (by dsimp only; omega)).mono ?_
  rintro e wc ⟨he, hwc⟩
  rw [show (⟨#[120]⟩ : ByteArray).data.toList = [120] from rfl, E.out] at he hwc
  obtain rfl : e = .returned (.int .i64 18) := he
  replace HA : Hid (DA wc wd.heap.size p m ⟨100, 5, 0, false, none, [([111, 108, 100], parts xs, (parts xs).length), ([120], parts ys, 0)]⟩) := hwc.1
  replace HB : Hid (Below wd.heap.size wd wc) := HB.out.trans hwc.2.2
  replace HW : Hid (OwnB wc w7.heap.size (.slice a8 n8 c8) (flat (parts xs))) := HW.out.kee hwc.2.1
  have FBc := (show Hid _ from FBd.out.step HB.out)
  have HKc : Hid (Bl wc (.slice ka ks.length kc) ks) := (HKd.out.sl.step HB.out).bl
  clear hwc E HOwb
  have y0 := FBc.out.cell 0 (v := .bool dn) rfl
  have y1 := FBc.out.cell 1 (v := .slice ka ks.length kc) rfl
  go_wp2_with fail
  refine (fate_ok wc dn _ ks HKc.out (by omega) HNO.out).mono ?_
  rintro e we ⟨⟨ue, rfl, hBl, hSf⟩, be⟩
  replace HA : Hid (DA we wd.heap.size p m ⟨100, 5, 0, false, none, [([111, 108, 100], parts xs, (parts xs).length), ([120], parts ys, 0)]⟩) := HA.out.step be
  replace HB : Hid (Below wd.heap.size wd we) := HB.out.trans (be.mono HB.out.size)
  replace HW : Hid (OwnB we w7.heap.size (.slice a8 n8 c8) (flat (parts xs))) := HW.out.kee (Kee.bel be)
  have HBL := (show Hid _ from hBl)
  have HSF : Hid (Safe we ue) := hSf
  clear hBl hSf be y0 y1
  go_wp2_with fail
  refine (restart_off we wd.heap.size p m _ HA.out dn ue ks HBL.out (by omega) HSF.out rfl).mono ?_
  rintro e wf ⟨rfl, ns, hpm, hsr, hf⟩
  have hdo : doUnd ⟨100, 5, 0, false, none, [([111, 108, 100], parts xs, (parts xs).length), ([120], parts ys, 0)]⟩ dn = [([111, 108, 100], parts xs, (parts xs).length), ([120], parts ys, 0)] := by cases dn <;> rfl
  rw [hdo] at hpm hf
  replace HW : Hid (OwnB wf w7.heap.size (.slice a8 n8 c8) (flat (parts xs))) := HW.out.kee hf.2.1
  replace HB : Hid (Below wd.heap.size wd wf) := HB.out.trans hf.2.2
  have hnd : (nms [([111, 108, 100], parts xs, (parts xs).length), ([120], parts ys, 0)]).Nodup := (show ([[111, 108, 100], [120]] : List (List UInt8)).Nodup by decide)
  obtain ⟨i, hi⟩ := lk_stl (ks := ks) hpm hnd (l := [111, 108, 100]) (t := ([111, 108, 100], parts xs, (parts xs).length)) rfl
  have hi' : lk (stl ks ns [([111, 108, 100], parts xs, (parts xs).length), ([120], parts ys, 0)]).1 [111, 108, 100] = some ([111, 108, 100], parts xs, (parts xs).length) := by rw [hi]; show some ([111, 108, 100], zf ks i (parts xs).length (parts xs).length (parts xs), (parts xs).length) = _; rw [zf_start]
  have hnn : lk (stl ks ns [([111, 108, 100], parts xs, (parts xs).length), ([120], parts ys, 0)]).1 [110, 101, 119] = none := by rw [lk_none, nms_stl]; exact (show [110, 101, 119] ∉ ([[111, 108, 100], [120]] : List (List UInt8)) by decide)
  obtain ⟨f6, hf6⟩ : ∃ f6, f6 = (stl ks ns [([111, 108, 100], parts xs, (parts xs).length), ([120], parts ys, 0)]).1 := ⟨_, rfl⟩
  rw [← hf6] at hi' hnn hf
  replace HA : Hid (DA wf wd.heap.size p m ⟨100, 5, 0, true, none, f6⟩) := hf.1
  have E1 := (show Hid _ from show seen ⟨100, 5, 0, true, none, f6⟩ [111, 108, 100] = (0, parts xs) from seen_on (t := ([111, 108, 100], parts xs, (parts xs).length)) rfl hi' rfl)
  have E2 := (show Hid _ from show seen ⟨100, 5, 0, true, none, f6⟩ [110, 101, 119] = (7, []) by unfold seen; rw [if_neg (by decide)]; show (match lk f6 [110, 101, 119] with | none => _ | some t => _) = _; rw [hnn])
  clear hf hpm hsr hdo hnd hi hi' hnn hf6 HBL HSF
  go_wp2_with fail
  refine (read_any wf wd.heap.size p m _ HA.out ⟨#[111, 108, 100]⟩ (by decide)).mono ?_
  rintro e wg ⟨⟨ug, he, Og⟩, bg⟩
  rw [show (⟨#[111, 108, 100]⟩ : ByteArray).data.toList = [111, 108, 100] from rfl, E1.out] at he Og
  obtain rfl : e = .returned (.tuple #[ug, .int .i64 0]) := he
  replace HA : Hid (DA wg wd.heap.size p m ⟨100, 5, 0, true, none, f6⟩) := HA.out.step bg
  replace HB : Hid (Below wd.heap.size wd wg) := HB.out.trans (bg.mono HB.out.size)
  replace HW : Hid (OwnB wg w7.heap.size (.slice a8 n8 c8) (flat (parts xs))) := HW.out.kee (Kee.bel bg)
  have HG : Hid (Bs wg ug (flat (parts xs))) := Og.bs
  clear Og bg
  go_wp2_with fail
  refine (read_any wg wd.heap.size p m _ HA.out ⟨#[110, 101, 119]⟩ (by decide)).mono ?_
  rintro e wh ⟨⟨uh, he, Oh⟩, bh⟩
  rw [show (⟨#[110, 101, 119]⟩ : ByteArray).data.toList = [110, 101, 119] from rfl, E2.out] at he Oh
  obtain rfl : e = .returned (.tuple #[uh, .int .i64 7]) := he
  replace HB : Hid (Below wd.heap.size wd wh) := HB.out.trans (bh.mono HB.out.size)
  replace HW : Hid (OwnB wh w7.heap.size (.slice a8 n8 c8) (flat (parts xs))) := HW.out.kee (Kee.bel bh)
  replace HG : Hid (Bs wh ug (flat (parts xs))) := HG.out.step bh
  clear Oh bh
  go_wp2_with fail
  refine (same_ok _ _ _ _ _ HG.out HW.out.bs).mono ?_
  rintro e wi ⟨rfl, bi⟩
  rw [decide_eq_true rfl]
  have HBi := (show Hid _ from HB.out.trans (bi.mono HB.out.size))
  clear bi
  go_wp2_with fail
  go_ret
  exact ⟨rfl, HBw.out.trans (HBi.out.mono HSw.out)⟩
end Go.Proofs.Ytonnkfijifdgcaa
