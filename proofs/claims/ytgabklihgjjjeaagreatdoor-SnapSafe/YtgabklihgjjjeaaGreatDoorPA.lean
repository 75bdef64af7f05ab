/- snap VI: Clean. -/
import Derived.Test.YtgabklihgjjjeaaGreatDoorPC
import Derived.Lib.SlBytesConst
namespace Go.Proofs.YtgabklihgjjjeaaGreatDoor
open Go.RowKit Go.Maps Go.Sort Go.Shelf pk
set_option linter.unusedVariables false
set_option linter.unusedSimpArgs false
set_option maxRecDepth 100000 in
set_option maxHeartbeats 1000000 in
theorem clean_none (w : World) (B p m : Nat) (x : AD) (h : DA w B p m x) (hon : x.on = true) (hs : Snp x.fs) (hl : x.fs.length ≤ 64) (hT : PtB B w) (hno : ∀ n, n ≤ 999999999999 → nmS n ∉ nms x.fs) :
    Calls Tryz.prog 11 #[ptr p] w fun e w' => e = .returned (.int .i64 0) ∧ Below w.heap.size w w' := by
  have HL := (show Hid _ from load_ok w B p m x h hon hs hl hT (fun _ => []) (fun n hn hn2 => absurd hn2 (hno n hn)))
  have HNO := (show Hid _ from hno)
  unfold ptr
  go_enter Tryz.func11, Tryz.ntmps11
  go_wp2_with fail
  refine Calls.mono HL.out ?_
  rintro e w1 ⟨⟨k, u, rfl, ⟨h1, h2, _⟩, _⟩ | ⟨rfl, _⟩, b1⟩
  · exact absurd h2 (HNO.out k h1)
  go_wp2_with fail
  go_ret
  exact ⟨rfl, b1⟩
/-- what Clean leaves -/
def cfs (k : Nat) (ks : List Nat) (fs : FS) : FS := fs.filter (fun t => decide (∀ a ∈ ks, a ≠ k → t.1 ≠ nmS a))
theorem cfs_nil (k : Nat) (fs : FS) : cfs k [] fs = fs := by
  unfold cfs
  exact List.filter_eq_self.2 (fun t _ => by simp)
theorem cfs_skip (k : Nat) (ks : List Nat) (fs : FS) : cfs k (ks ++ [k]) fs = cfs k ks fs := by
  unfold cfs
  congr 1
  funext t
  simp
  exact ⟨fun h a ha hk => h a (Or.inl ha) hk, fun h a ha hk => ha.elim (fun h1 => h a h1 hk) (fun h1 => absurd h1 hk)⟩
theorem cfs_rem (k n : Nat) (ks : List Nat) (fs : FS) (h : n ≠ k) : cfs k (ks ++ [n]) fs = doOp ⟨4, nmS n, [], 0⟩ (cfs k ks fs) := by
  show _ = (cfs k ks fs).filter (fun t => decide (t.1 ≠ nmS n))
  unfold cfs
  rw [List.filter_filter]
  congr 1
  funext t
  rw [← Bool.decide_and]
  refine decide_eq_decide.2 ⟨fun hh => ⟨hh n (by simp) h, fun a ha hk => hh a (by simp [ha]) hk⟩, fun hh a ha hk => ?_⟩
  rcases List.mem_append.1 ha with h1 | h1
  · exact hh.2 a h1 hk
  · have : a = n := by simpa using h1
    rw [this]
    exact hh.1
theorem cfs_mem {k n : Nat} {ks : List Nat} {fs : FS} (hn : n ≤ 999999999999) (hks : ∀ a ∈ ks, a ≤ 999999999999) (hnk : n ∉ ks) (h : nmS n ∈ nms fs) : (lk (cfs k ks fs) (nmS n)).isSome = true := by
  rw [lk_isSome]
  unfold nms cfs
  obtain ⟨t, ht, e⟩ := List.mem_map.1 h
  refine List.mem_map.2 ⟨t, List.mem_filter.2 ⟨ht, ?_⟩, e⟩
  refine decide_eq_true (fun a ha _ he => hnk ?_)
  rw [e] at he
  rw [nmS_inj hn (hks a ha) he]
  exact ha
theorem own_kee {w w' : World} {B : Nat} {v : Value} {xs : List Nat} (h : Own KI w B v xs) (k : Kee w w') : Own KI w' B v xs := by
  refine h.blk fun g hg => ?_
  rcases h.own.2 with ⟨rfl, _⟩ | ⟨g', cap, cur, rfl, hb, hg', _⟩
  · simp [Value.ownBlock] at hg
  · have : g' = g := by simpa [Value.ownBlock] using hg
    subst this
    rw [hg']
    exact k.blk _ _ _ _ hg' (by unfold Dt; decide)
end Go.Proofs.YtgabklihgjjjeaaGreatDoor
/- snap VII: Clean of a disk with snapshots. -/
namespace Go.Proofs.YtgabklihgjjjeaaGreatDoor
open Go.RowKit Go.Maps Go.Sort Go.Shelf pk
set_option linter.unusedVariables false
set_option linter.unusedSimpArgs false
theorem not_take {ks : List Nat} (h : ks.Pairwise (· < ·)) {j n : Nat} (hn : ks[j]? = some n) : n ∉ ks.take j := fun hm => by
  obtain ⟨i, hi, e⟩ := List.mem_iff_getElem.1 hm
  obtain ⟨hj, ej⟩ := List.getElem?_eq_some_iff.1 hn
  rw [List.length_take] at hi
  rw [List.getElem_take] at e
  have := List.pairwise_iff_getElem.1 h i j (by omega) hj (by omega)
  omega
set_option maxRecDepth 100000 in
set_option maxHeartbeats 1000000 in
theorem clean_ok (w : World) (B p m R o : Nat) (fs : FS) (h : DA w B p m ⟨R, o, 0, true, none, fs⟩) (hs : Snp fs) (hl : fs.length ≤ 64) (ho : o ≤ 4611686018427387000) (hT : PtB B w) (F : Nat → List Nat) (hW : ∀ n, n ≤ 999999999999 → nmS n ∈ nms fs → Whl fs n (F n)) (k : Nat) (hk : k ≤ 999999999999) (hk2 : nmS k ∈ nms fs) (hk3 : ∀ n, n ≤ 999999999999 → nmS n ∈ nms fs → n ≤ k) :
    Calls Tryz.prog 11 #[ptr p] w fun e w' => e = .returned (.int .i64 0) ∧ ∃ ks o', Nums fs ks ∧ o' ≤ o + ks.length ∧ Lv w w' B p m ⟨R, o', 0, true, none, cfs k ks fs⟩ := by
  have HL := (show Hid _ from load_ok w B p m _ h rfl hs hl hT F hW)
  have HLI := (show Hid _ from fun w' (k : Below w.heap.size w w') => list_ok w' B p m _ (h.step k) rfl hs (show fs.length ≤ 100 by omega))
  have HDA : Hid (DA w B p m ⟨R, o, 0, true, none, fs⟩) := h
  have HT : Hid (PtB B w) := hT
  clear h hT hW hs
  unfold ptr
  go_enter Tryz.func11, Tryz.ntmps11
  go_wp2_with fail
  refine Calls.mono HL.out ?_
  rintro e w1 ⟨⟨k1, u, rfl, ⟨h1, h2, h3⟩, _⟩ | ⟨rfl, hno⟩, b1⟩
  rotate_left
  · exact absurd hk2 (hno k hk)
  obtain rfl : k1 = k := Nat.le_antisymm (hk3 k1 h1 h2) (h3 k hk hk2)
  clear h1 h2 h3 HL
  go_wp2_with fail
  refine Calls.mono (HLI.out _ b1) ?_
  rintro e w2 ⟨v, ks, rfl, o2, nu, b2⟩
  obtain ⟨sa, cap, rfl, hc1, hc2⟩ := o2.form
  have b12 : Below w.heap.size w w2 := b1.trans (b2.mono b1.size)
  have HLV : Hid (Lv w w2 B p m ⟨R, o, 0, true, none, fs⟩) := Lv.step HDA.out b12
  have HT2 : Hid (PtB B w2) := HT.out.on (b12.mono HDA.out.lt)
  have HNU : Hid (Nums fs ks) := nu
  have HO2 := (show Hid _ from o2)
  obtain ⟨L, hL⟩ : ∃ L, L = ks.length := ⟨_, rfl⟩
  have hL64 : L ≤ 64 := by rw [hL]; exact Nat.le_trans nu.len hl
  rw [← hL] at hc1 HO2 ⊢
  have HKL : Hid (L = ks.length) := hL
  clear b12 b1 b2 nu o2 hL HLI HDA HT hk2 hk3 hl
  go_wp2_with fail
  go_loopw [27] (fun i wr => ∃ j o', j ≤ L ∧ i = .int .i64 ((j : Nat) : Int) ∧ o' ≤ o + j ∧ Hid (Lv w wr B p m ⟨R, o', 0, true, none, cfs k1 (ks.take j) fs⟩) ∧ Hid (Own KI wr w1.heap.size (.slice sa L cap) ks) ∧ Hid (PtB B wr)) (fun i _ => L - (intOf i).toNat)
  case atStart => exact ⟨0, o, by omega, rfl, by omega, by show Lv _ _ _ _ _ _; rw [List.take_zero, cfs_nil]; exact HLV.out, HO2.out, HT2.out⟩
  case round =>
    obtain ⟨j, o', hj, rfl, ho', HLj, HOj, HTj⟩ := hrel
    rcases Nat.lt_or_ge j L with hlt | hge
    · have hjk : j < ks.length := by rw [← HKL.out]; exact hlt
      obtain ⟨n, hn⟩ : ∃ n, ks[j]? = some n := ⟨_, List.getElem?_eq_getElem hjk⟩
      have HN : Hid (ks[j]? = some n) := hn
      have hnm := (HNU.out.mem n).1 (List.mem_of_getElem? hn)
      have hSL := HOj.out.sl
      obtain ⟨b, off, rfl, hb, hx⟩ := hSL.at j n hn
      have y1 := hx 0 (.int .i64 (n : Int)) rfl
      simp only [KI, Nat.mul_one, Nat.add_zero] at y1
      clear hx hSL hn hjk
      by_cases hnk : n = k1
      · subst hnk
        go_wp2_with fail
        refine ⟨⟨j + 1, o', by omega, by simp, by omega, ?_, HOj, HTj⟩, by simp [intOf]; omega⟩
        show Lv _ _ _ _ _ _
        rw [List.take_add_one, HN.out]
        show Lv _ _ _ _ _ ⟨R, o', 0, true, none, cfs n (ks.take j ++ [n]) fs⟩
        rw [cfs_skip]
        exact HLj.out
      · have dnk : ¬ ((n : Int) = (k1 : Int)) := by omega
        go_wp2_with fail
        refine Calls.mono (sname_ok n wr hnm.1 HTj.out.pt) ?_
        rintro e w3 ⟨rfl, b3⟩
        have HL3 : Hid (Lv w w3 B p m ⟨R, o', 0, true, none, cfs k1 (ks.take j) fs⟩) := Lv.trans HLj.out (Lv.step HLj.out.1 b3)
        have HO3 : Hid (Own KI w3 w1.heap.size (.slice (some ⟨b, off, none⟩) L cap) ks) := own_kee HOj.out (Kee.bel b3)
        have HT3 : Hid (PtB B w3) := HTj.out.on (b3.mono HLj.out.1.lt)
        clear b3 HLj HOj HTj y1
        go_wp2_with fail
        have CR := remove_any w3 B p m _ HL3.out.1 ⟨(nmS n).toArray⟩ (by show (nmS n).toArray.size ≤ _; simp [nmS_len]) (show o' ≤ _ by omega) (show 0 ≤ _ by omega)
        rw [show (⟨(nmS n).toArray⟩ : ByteArray).data.toList = nmS n by simp, oper_idle (nmS_is n) (fun h => by cases h) (cfs_mem hnm.1 (fun a ha => ((HNU.out.mem a).1 (List.mem_of_mem_take ha)).1) (not_take HNU.out.srt HN.out) hnm.2), ← cfs_rem k1 n _ _ hnk] at CR
        refine Calls.mono CR ?_
        rintro e w4 ⟨rfl, L4⟩
        have HL4 : Hid (Lv w w4 B p m ⟨R, o' + 1, 0, true, none, cfs k1 (ks.take j ++ [n]) fs⟩) := Lv.trans HL3.out L4
        have HO4 : Hid (Own KI w4 w1.heap.size (.slice (some ⟨b, off, none⟩) L cap) ks) := own_kee HO3.out L4.2.1
        have HT4 : Hid (PtB B w4) := HT3.out.on L4.2.2
        clear L4 HL3 HO3 HT3 CR
        go_wp2_with fail
        refine ⟨⟨j + 1, o' + 1, by omega, by simp, by omega, ?_, HO4, HT4⟩, by simp [intOf]; omega⟩
        show Lv _ _ _ _ _ _
        rw [List.take_add_one, HN.out]
        exact HL4.out
    · obtain rfl : j = L := by omega
      go_wp2_with fail
      go_ret
      refine ⟨rfl, ks, o', HNU.out, by rw [← HKL.out]; exact ho', ?_⟩
      have := HLj.out
      rw [List.take_of_length_le (by rw [← HKL.out]; exact Nat.le_refl _)] at this
      exact this
end Go.Proofs.YtgabklihgjjjeaaGreatDoor
/- snap VIII: a nil disk. -/
namespace Go.Proofs.YtgabklihgjjjeaaGreatDoor
open Go.RowKit Go.Maps Go.Sort Go.Shelf pk
set_option linter.unusedVariables false
set_option linter.unusedSimpArgs false
set_option maxRecDepth 100000 in
theorem on_nil (w : World) : Calls Tryz.prog 19 #[.pointer none] w fun r w' => r = .returned (.bool false) ∧ Below w.heap.size w w' := by
  go_enter Tryz.func19, Tryz.ntmps19
  go_wp2_with fail
  go_ret
  exact ⟨rfl, Below.refl _ _⟩
set_option maxRecDepth 100000 in
theorem names_nil (w : World) :
    Calls Tryz.prog 34 #[.pointer none] w fun r w' => r = .returned (.slice none 0 0) ∧ Below w.heap.size w w' := by
  go_enter Tryz.func34, Tryz.ntmps34
  go_wp2_with (go_at_call 19; refine (on_nil _).mono ?_; rintro e wi ⟨rfl, bi⟩)
  go_ret
  exact ⟨rfl, bi⟩
set_option maxRecDepth 100000 in
theorem list_nil (w : World) : Calls Tryz.prog 12 #[.pointer none] w fun r w' => (∃ a c, r = .returned (.slice a 0 c)) ∧ Below w.heap.size w w' := by
  go_enter Tryz.func12, Tryz.ntmps12
  go_wp2_with fail
  refine (names_nil _).mono ?_
  rintro e w1 ⟨rfl, b1⟩
  go_wp2_with fail
  refine (numbers_ok w1 (.slice none 0 0) [] ⟨none, 0, rfl, by simp, by omega, fun i l h => by simp at h⟩ (fun n h => by cases h) (by simp)).mono ?_
  rintro e w2 ⟨⟨u, rfl, o2⟩, b2⟩
  obtain ⟨a, c, rfl, _⟩ := o2.form
  go_wp2_with fail
  go_ret
  exact ⟨⟨a, c, rfl⟩, b1.trans (b2.mono b1.size)⟩
set_option maxRecDepth 100000 in
theorem load_nil (w : World) : Calls Tryz.prog 6 #[.pointer none] w fun r w' => r = .returned (.tuple #[.int .i64 0, .slice none 0 0, .int .i64 7]) ∧ Below w.heap.size w w' := by
  go_enter Tryz.func6, Tryz.ntmps6
  go_wp2_with fail
  refine bodyPost_ret (v := .tuple #[.int .i64 0, .slice none 0 0, .int .i64 7]) (by simp [results, Tryz.results6, go_sem, asAddr]) rfl ?_
  have b1 := (Below.refl w.heap.size w).alloc (Nat.le_refl _) (.cells #[.pointer none] 37)
  have b2 := b1.alloc b1.size (.cells #[.int .i64 0] 2)
  have b3 := b2.alloc b2.size (.cells #[.slice none 0 0] 22)
  have b4 := b3.alloc b3.size (.cells #[.int .i64 7] 23)
  exact ⟨rfl, b4⟩
set_option maxRecDepth 100000 in
theorem clean_nil (w : World) : Calls Tryz.prog 11 #[.pointer none] w fun r w' => r = .returned (.int .i64 7) ∧ Below w.heap.size w w' := by
  go_enter Tryz.func11, Tryz.ntmps11
  go_wp2_with fail
  refine (load_nil _).mono ?_
  rintro e w1 ⟨rfl, b1⟩
  go_wp2_with fail
  go_ret
  exact ⟨rfl, b1⟩
/-- what Write answers without a disk -/
def wnil (n : Int) (L : Nat) : Nat := if n < 0 ∨ 999999999999 < n then 1 else if 400000 < L then 2 else if L = 0 then 3 else 7
set_option maxRecDepth 100000 in
set_option maxHeartbeats 1000000 in
theorem write_nil (w : World) (n : Int) (v : Value) (bs : List Nat) (hb : Bs w v bs) : Calls Tryz.prog 8 #[.pointer none, .int .i64 n, v] w fun r w' => r = .returned (.int .i64 (wnil n bs.length : Nat)) ∧ w' = w := by
  obtain ⟨_, a, c, rfl, _⟩ := hb
  generalize bs.length = L
  by_cases h1 : n < 0
  · have e : wnil n L = 1 := by unfold wnil; rw [if_pos (Or.inl h1)]
    rw [e]
    go_enter Tryz.func8, Tryz.ntmps8
    go_wp2_with fail
    go_ret
    exact ⟨rfl, rfl⟩
  by_cases h2 : 999999999999 < n
  · have e : wnil n L = 1 := by unfold wnil; rw [if_pos (Or.inr h2)]
    rw [e]
    go_enter Tryz.func8, Tryz.ntmps8
    go_wp2_with fail
    go_ret
    exact ⟨rfl, rfl⟩
  have h3 : ¬ (n < 0 ∨ 999999999999 < n) := by omega
  by_cases h4 : 400000 < L
  · have e : wnil n L = 2 := by unfold wnil; rw [if_neg h3, if_pos h4]
    rw [e]
    clear h3
    go_enter Tryz.func8, Tryz.ntmps8
    go_wp2_with fail
    go_ret
    exact ⟨rfl, rfl⟩
  by_cases h5 : L = 0
  · have e : wnil n L = 3 := by unfold wnil; rw [if_neg h3, if_neg h4, if_pos h5]
    rw [e]
    clear h3 e
    subst h5
    go_enter Tryz.func8, Tryz.ntmps8
    go_wp2_with fail
    go_ret
    exact ⟨rfl, rfl⟩
  · have e : wnil n L = 7 := by unfold wnil; rw [if_neg h3, if_neg h4, if_neg h5]
    rw [e]
    clear h3 e
    go_enter Tryz.func8, Tryz.ntmps8
    go_wp2_with fail
    go_ret
    exact ⟨rfl, rfl⟩
end Go.Proofs.YtgabklihgjjjeaaGreatDoor
/- snap IX: a Write on an idle disk, in plain words. -/
namespace Go.Proofs.YtgabklihgjjjeaaGreatDoor
open Go.RowKit Go.Maps Go.Sort Go.Shelf pk
set_option linter.unusedVariables false
set_option linter.unusedSimpArgs false
/-- the files behind a Write -/
def wfs (fs : FS) (n : Nat) (bs : List Nat) : FS := doOp ⟨3, nmT, nmS n, 0⟩ (doOp ⟨1, nmT, [], 0⟩ (apd fs nmT (parts (secS bs))))
theorem nmT_is : isNm nmT = true := by decide
theorem wrS_idle (R o n : Nat) (fs : FS) (bs : List Nat) (hno : nmT ∉ nms fs) (hfit : fitA R fs nmT (cnt (secS bs).length) = true) :
    wrS ⟨R, o, 0, true, none, fs⟩ n bs = (0, ⟨R, o + 1 + 1 + 1, 0, true, none, wfs fs n bs⟩) := by
  have e0 : oper ⟨R, o, 0, true, none, fs⟩ ⟨4, nmT, [], 0⟩ = (7, ⟨R, o, 0, true, none, fs⟩) := oper_none nmT_is (fun h => by cases h) ((lk_none fs nmT).2 hno)
  have e1 : wr1 ⟨R, o, 0, true, none, fs⟩ = (0, ⟨R, o, 0, true, none, fs⟩) := by unfold wr1; rw [e0]; rfl
  have e2 : wr2 ⟨R, o, 0, true, none, fs⟩ bs = (0, ⟨R, o + 1, 0, true, none, apd fs nmT (parts (secS bs))⟩) := apnd_idle nmT_is hfit
  have l1 : (lk (apd fs nmT (parts (secS bs))) nmT).isSome = true := by rw [lk_apd_same]; rfl
  have e3 : wr3 ⟨R, o + 1, 0, true, none, apd fs nmT (parts (secS bs))⟩ = (0, ⟨R, o + 1 + 1, 0, true, none, doOp ⟨1, nmT, [], 0⟩ (apd fs nmT (parts (secS bs)))⟩) := oper_idle nmT_is (fun h => by cases h) l1
  have l2 : (lk (doOp ⟨1, nmT, [], 0⟩ (apd fs nmT (parts (secS bs)))) nmT).isSome = true := by
    rw [sync_fs, lk_map _ _ (fun t => by split <;> rfl)]
    rw [Option.isSome_map]
    exact l1
  have e4 : wr4 ⟨R, o + 1 + 1, 0, true, none, doOp ⟨1, nmT, [], 0⟩ (apd fs nmT (parts (secS bs)))⟩ n = (0, ⟨R, o + 1 + 1 + 1, 0, true, none, wfs fs n bs⟩) := oper_idle nmT_is (fun _ => nmS_is n) l2
  unfold wrS
  simp only [e1, e2, e3, e4, ne_eq, not_true_eq_false, if_false]
theorem lk_filter (fs : FS) (P : List UInt8 × List (List Nat) × Nat → Bool) (l : List UInt8) (h : ∀ t, t.1 = l → P t = true) : lk (fs.filter P) l = lk fs l := by
  unfold lk
  rw [List.find?_filter]
  congr 1
  funext t
  by_cases e : t.1 = l
  · have h2 : (t.1 == l) = true := by simpa using e
    rw [h t e, h2]
    simp
  · have : (t.1 == l) = false := by simpa using e
    simp [this]
theorem lk_fs2 (fs : FS) (bs : List Nat) (hno : nmT ∉ nms fs) : lk (doOp ⟨1, nmT, [], 0⟩ (apd fs nmT (parts (secS bs)))) nmT = some (nmT, parts (secS bs), (parts (secS bs)).length) := by
  rw [sync_fs, lk_map _ _ (fun t => by split <;> rfl), lk_apd_same, (lk_none fs nmT).2 hno]
  rfl
theorem wfs_eq (fs : FS) (n : Nat) (bs : List Nat) (hno : nmT ∉ nms fs) : wfs fs n bs = (doOp ⟨1, nmT, [], 0⟩ (apd fs nmT (parts (secS bs)))).filter (fun u => decide (u.1 ≠ nmT ∧ u.1 ≠ nmS n)) ++ [(nmS n, parts (secS bs), (parts (secS bs)).length)] := by
  have h := lk_fs2 fs bs hno
  unfold wfs
  obtain ⟨f2, hf⟩ : ∃ f2 : FS, f2 = doOp ⟨1, nmT, [], 0⟩ (apd fs nmT (parts (secS bs))) := ⟨_, rfl⟩
  rw [← hf] at h ⊢
  unfold doOp
  simp [h]
theorem lk_wfs_same (fs : FS) (n : Nat) (bs : List Nat) (hno : nmT ∉ nms fs) : lk (wfs fs n bs) (nmS n) = some (nmS n, parts (secS bs), (parts (secS bs)).length) := by
  rw [wfs_eq fs n bs hno]
  unfold lk
  rw [List.find?_append, List.find?_eq_none.2 (fun t ht => ?_)]
  · simp
  · have := (List.mem_filter.1 ht).2
    simp at this
    simp [this.2]
theorem lk_wfs_other (fs : FS) (n : Nat) (bs : List Nat) (hno : nmT ∉ nms fs) (l : List UInt8) (h1 : l ≠ nmS n) (h2 : l ≠ nmT) : lk (wfs fs n bs) l = lk fs l := by
  rw [wfs_eq fs n bs hno]
  have e : ∀ (f : FS) (z : List UInt8 × List (List Nat) × Nat), z.1 ≠ l → lk (f ++ [z]) l = lk f l := fun f z hz => by
    unfold lk
    rw [List.find?_append]
    have : (z.1 == l) = false := by simpa using hz
    simp [this]
  rw [e _ _ (fun h => h1 h.symm), lk_filter _ _ _ (fun t ht => by rw [ht]; simp [h1, h2]), sync_fs, lk_map _ _ (fun t => by split <;> rfl), lk_apd_other _ _ _ _ h2]
  cases hl : lk fs l with
  | none => rfl
  | some t =>
    have := (lk_nm hl).1
    simp [this, h2]
theorem nmT_wfs (fs : FS) (n : Nat) (bs : List Nat) (hno : nmT ∉ nms fs) : nmT ∉ nms (wfs fs n bs) := by
  rw [← lk_none, wfs_eq fs n bs hno]
  unfold lk
  rw [List.find?_append, List.find?_eq_none.2 (fun t ht => ?_)]
  · have : (nmS n == nmT) = false := by simpa using nmS_ne n
    simp [this]
  · have := (List.mem_filter.1 ht).2
    simp at this
    simp [this.1]
theorem flat_parts_aux (bs : List Nat) (C : Nat) (h : bs.length = 32 * C) : ∀ k, k ≤ C → ((List.range k).map (part bs)).flatMap pad32 = bs.take (32 * k)
  | 0, _ => rfl
  | k + 1, hk => by
    rw [List.range_succ, List.map_append, List.flatMap_append, flat_parts_aux bs C h k (by omega)]
    have hl : (part bs k).length ≤ 32 := by unfold part; simp; omega
    have hp : pad32 (part bs k) = (bs.drop (32 * k)).take 32 := by
      rw [pad32_eq _ hl]
      have e : part bs k = (bs.drop (32 * k)).take 32 := by
        unfold part
        rfl
      have hl2 : (part bs k).length = 32 := by rw [e, List.length_take, List.length_drop]; omega
      rw [hl2, e]
      simp
    show _ ++ (pad32 (part bs k) ++ []) = _
    rw [List.append_nil, hp, show 32 * (k + 1) = 32 * k + 32 by omega, List.take_add]
theorem flat_parts (bs : List Nat) (C : Nat) (h : bs.length = 32 * C) : flat (parts bs) = bs := by
  unfold flat parts
  rw [show cnt bs.length = C by unfold cnt; omega, flat_parts_aux bs C h C (Nat.le_refl _), ← h, List.take_length]
theorem whl_same (fs : FS) (n : Nat) (bs : List Nat) (hno : nmT ∉ nms fs) (hb : By bs) (h0 : 0 < bs.length) (hl : bs.length ≤ 400000) : Whl (wfs fs n bs) n bs :=
  ⟨⟨_, lk_wfs_same fs n bs hno, flat_parts _ _ (secS_len bs)⟩, hb, h0, hl⟩
theorem whl_other (fs : FS) (n k : Nat) (bs cs : List Nat) (hno : nmT ∉ nms fs) (hn : n ≤ 999999999999) (hk : k ≤ 999999999999) (hne : k ≠ n) (h : Whl fs k cs) : Whl (wfs fs n bs) k cs := by
  obtain ⟨⟨t, h1, h2⟩, h3⟩ := h
  exact ⟨⟨t, by rw [lk_wfs_other fs n bs hno _ (fun e => hne (nmS_inj hk hn e)) (nmS_ne k)]; exact h1, h2⟩, h3⟩
end Go.Proofs.YtgabklihgjjjeaaGreatDoor
/- snap X: the document's SameInts. -/
namespace Go.Proofs.YtgabklihgjjjeaaGreatDoor
open Go.RowKit Go.Maps Go.Sort Go.Shelf pk
set_option linter.unusedVariables false
set_option linter.unusedSimpArgs false
theorem ki_at {w : World} {a : Option Addr} {n c : Nat} {xs : List Nat} (h : Sl KI w (.slice a n c) xs) {i x : Nat} (hi : xs[i]? = some x) : ∃ b off, a = some ⟨b, off, none⟩ ∧ b < w.heap.size ∧ w.cell? ⟨b, off + i, none⟩ = some (.int .i64 (x : Int)) := by
  obtain ⟨b, off, e, hb, hx⟩ := h.at i x hi
  have := hx 0 (.int .i64 (x : Int)) rfl
  simp only [KI, Nat.mul_one, Nat.add_zero] at this
  exact ⟨b, off, e, hb, this⟩
set_option maxRecDepth 100000 in
theorem sameInts_ok (w : World) (u v : Value) (xs : List Nat) (hu : Sl KI w u xs) (hv : Sl KI w v xs) (hl : xs.length ≤ 1000) :
    Calls Tryz.prog 18 #[u, v] w fun e w' => e = .returned (.bool true) ∧ Below w.heap.size w w' := by
  obtain ⟨a, c, rfl, h1, h2, _⟩ := id hu
  obtain ⟨a', c', rfl, h1', h2', _⟩ := id hv
  have HU := (show Hid _ from hu)
  have HV := (show Hid _ from hv)
  obtain ⟨L, hL⟩ : ∃ L, L = xs.length := ⟨_, rfl⟩
  rw [← hL] at HU HV h1 h1' hl ⊢
  have HKL : Hid (L = xs.length) := hL
  clear hu hv hL
  go_enter Tryz.func18, Tryz.ntmps18
  go_wp2_with fail
  go_loopw [13] (fun i wr => ∃ j : Nat, j ≤ L ∧ i = .int .i64 (j : Int) ∧ Hid (Below w.heap.size w wr)) (fun i _ => L - (intOf i).toNat)
  case atStart => exact ⟨0, by omega, rfl, Below.refl _ _⟩
  case round =>
    obtain ⟨j, hj, rfl, HB⟩ := hrel
    rcases Nat.lt_or_ge j L with hlt | hge
    · obtain ⟨n, hn⟩ : ∃ n, xs[j]? = some n := ⟨_, List.getElem?_eq_getElem (by rw [← HKL.out]; exact hlt)⟩
      obtain ⟨b, off, rfl, q1, q2⟩ := ki_at HU.out hn
      obtain ⟨b', off', rfl, q3, q4⟩ := ki_at HV.out hn
      clear hn
      go_wp2_with fail
      refine wp_region_held_drew (S := fun w' => Below w.heap.size w w') (by kernel_rfl) HB.out.drew (fun hHeld => ?_)
      refine takeD 0 16 (.slice (some ⟨b, off, none⟩) L c) (by exact rfl) rfl (by kernel_rfl) (by kernel_rfl) (by kernel_rfl) (fun _ _ _ h => h) (Or.inl ⟨by rfl, ?_⟩) (by assumption) ?_
      · intro wq hS
        go_simp
      try simp only [Act.put, List.setIfInBounds_toArray, List.set_cons_zero, List.set_cons_succ]
      refine takeD 1 17 (.int .i64 (j : Int)) (by exact rfl) rfl (by kernel_rfl) (by kernel_rfl) (by kernel_rfl) (fun _ _ _ h => h) (Or.inl ⟨by rfl, ?_⟩) (by assumption) ?_
      · intro wq hS
        go_simp
      try simp only [Act.put, List.setIfInBounds_toArray, List.set_cons_zero, List.set_cons_succ]
      refine takeD 2 18 (.pointer (some ⟨b, off + j, none⟩)) (by exact rfl) rfl (by kernel_rfl) (by kernel_rfl) (by kernel_rfl) (fun _ _ _ h => h) (Or.inl ⟨by rfl, ?_⟩) (by assumption) ?_
      · intro wq hS
        go_simp
      try simp only [Act.put, List.setIfInBounds_toArray, List.set_cons_zero, List.set_cons_succ]
      refine takeD 3 19 (.int .i64 (n : Int)) (by exact rfl) rfl (by kernel_rfl) (by kernel_rfl) (by kernel_rfl) (fun _ _ _ h => h) (Or.inl ⟨by rfl, ?_⟩) (by assumption) ?_
      · intro wq hS
        have y := (hS.cell (p := ⟨b, off + j, none⟩) q1).trans q2
        go_simp
      try simp only [Act.put, List.setIfInBounds_toArray, List.set_cons_zero, List.set_cons_succ]
      refine takeD 4 20 (.slice (some ⟨b', off', none⟩) L c') (by exact rfl) rfl (by kernel_rfl) (by kernel_rfl) (by kernel_rfl) (fun _ _ _ h => h) (Or.inl ⟨by rfl, ?_⟩) (by assumption) ?_
      · intro wq hS
        go_simp
      try simp only [Act.put, List.setIfInBounds_toArray, List.set_cons_zero, List.set_cons_succ]
      refine takeD 5 21 (.int .i64 (j : Int)) (by exact rfl) rfl (by kernel_rfl) (by kernel_rfl) (by kernel_rfl) (fun _ _ _ h => h) (Or.inl ⟨by rfl, ?_⟩) (by assumption) ?_
      · intro wq hS
        go_simp
      try simp only [Act.put, List.setIfInBounds_toArray, List.set_cons_zero, List.set_cons_succ]
      refine takeD 6 22 (.pointer (some ⟨b', off' + j, none⟩)) (by exact rfl) rfl (by kernel_rfl) (by kernel_rfl) (by kernel_rfl) (fun _ _ _ h => h) (Or.inl ⟨by rfl, ?_⟩) (by assumption) ?_
      · intro wq hS
        go_simp
      try simp only [Act.put, List.setIfInBounds_toArray, List.set_cons_zero, List.set_cons_succ]
      refine takeD 7 23 (.int .i64 (n : Int)) (by exact rfl) rfl (by kernel_rfl) (by kernel_rfl) (by kernel_rfl) (fun _ _ _ h => h) (Or.inl ⟨by rfl, ?_⟩) (by assumption) ?_
      · intro wq hS
        have y := (hS.cell (p := ⟨b', off' + j, none⟩) q3).trans q4
        go_simp
      try simp only [Act.put, List.setIfInBounds_toArray, List.set_cons_zero, List.set_cons_succ]
      refine takeD 8 24 (.bool false) (by exact rfl) rfl (by kernel_rfl) (by kernel_rfl) (by kernel_rfl) (fun _ _ _ h => h) (Or.inl ⟨by rfl, ?_⟩) (by assumption) ?_
      · intro wq hS
        go_simp
      try simp only [Act.put, List.setIfInBounds_toArray, List.set_cons_zero, List.set_cons_succ]
      refine wpAnyH_done (by kernel_rfl) ?_ _
      go_wp2_with fail
      exact ⟨⟨j + 1, by omega, by simp, hHeld⟩, by simp [intOf]; omega⟩
    · obtain rfl : j = L := by omega
      go_wp2_with fail
      go_ret
      exact ⟨rfl, HB.out⟩
end Go.Proofs.YtgabklihgjjjeaaGreatDoor
/- snap XI: how much a Write leaves. -/
namespace Go.Proofs.YtgabklihgjjjeaaGreatDoor
open Go.RowKit Go.Maps Go.Sort Go.Shelf pk
set_option linter.unusedVariables false
set_option linter.unusedSimpArgs false
theorem nms_wfs (fs : FS) (n : Nat) (bs : List Nat) (hno : nmT ∉ nms fs) (l : List UInt8) : l ∈ nms (wfs fs n bs) ↔ l = nmS n ∨ l ∈ nms fs := by
  by_cases h1 : l = nmS n
  · subst h1
    refine ⟨fun _ => Or.inl rfl, fun _ => ?_⟩
    rw [← lk_isSome, lk_wfs_same fs n bs hno]
    rfl
  by_cases h2 : l = nmT
  · subst h2
    exact ⟨fun h => absurd h (nmT_wfs fs n bs hno), fun h => h.elim (fun e => absurd e.symm (nmS_ne n)) (fun h => absurd h hno)⟩
  · rw [← lk_isSome, lk_wfs_other fs n bs hno l h1 h2, lk_isSome]
    exact ⟨Or.inr, fun h => h.elim (fun e => absurd e h1) id⟩
theorem snp_wfs {fs : FS} {n : Nat} (bs : List Nat) (hno : nmT ∉ nms fs) (hn : n ≤ 999999999999) (h : Snp fs) : Snp (wfs fs n bs) := fun l hl => by
  rcases (nms_wfs fs n bs hno l).1 hl with e | e
  · exact Or.inr ⟨n, hn, e⟩
  · exact h l e
theorem len_apd (fs : FS) (ps : List (List Nat)) (hno : nmT ∉ nms fs) : (apd fs nmT ps).length = fs.length + 1 := by
  have := congrArg List.length (nms_apd fs nmT ps)
  rw [if_neg hno] at this
  simpa [nms] using this
theorem len_wfs (fs : FS) (n : Nat) (bs : List Nat) (hno : nmT ∉ nms fs) : (wfs fs n bs).length ≤ fs.length + 1 := by
  have h2 := lk_fs2 fs bs hno
  have hl : (doOp ⟨1, nmT, [], 0⟩ (apd fs nmT (parts (secS bs)))).length = fs.length + 1 := by rw [sync_fs, List.length_map, len_apd fs _ hno]
  rw [wfs_eq fs n bs hno, List.length_append]
  have hm := (lk_nm h2).2
  have := (List.length_filter_lt_length_iff_exists (p := fun u : List UInt8 × List (List Nat) × Nat => decide (u.1 ≠ nmT ∧ u.1 ≠ nmS n))).2 ⟨_, hm, by simp⟩
  rw [hl] at this
  simp only [List.length_cons, List.length_nil]
  omega
theorem totA_filter (P : List UInt8 × List (List Nat) × Nat → Bool) (fs : FS) : totA (fs.filter P) ≤ totA fs := by
  induction fs with
  | nil => exact Nat.le_refl _
  | cons t fs ih =>
    rw [List.filter_cons]
    split
    · show t.2.1.length + totA _ ≤ t.2.1.length + totA _
      omega
    · show totA _ ≤ t.2.1.length + totA _
      omega
theorem totA_snoc : ∀ (f : FS) (z : List UInt8 × List (List Nat) × Nat), totA (f ++ [z]) = totA f + z.2.1.length
  | [], z => by show z.2.1.length + 0 = 0 + _; omega
  | t :: f, z => by show t.2.1.length + totA (f ++ [z]) = t.2.1.length + totA f + _; rw [totA_snoc f z]; omega
theorem tot_wfs (fs : FS) (n : Nat) (bs : List Nat) (hno : nmT ∉ nms fs) : totA (wfs fs n bs) ≤ totA fs + 2 * cn4 (bs.length + 4) := by
  have hp : (parts (secS bs)).length = cn4 (bs.length + 4) := by rw [parts_len, secS_len]; unfold cnt; omega
  have h1 : totA (doOp ⟨1, nmT, [], 0⟩ (apd fs nmT (parts (secS bs)))) ≤ totA fs + (parts (secS bs)).length := by
    rw [sync_fs, ← tot_apd fs nmT]
    exact tot_map_le _ _ (fun t => by split <;> exact Nat.le_refl _)
  rw [wfs_eq fs n bs hno]
  have h2 := totA_filter (fun u => decide (u.1 ≠ nmT ∧ u.1 ≠ nmS n)) (doOp ⟨1, nmT, [], 0⟩ (apd fs nmT (parts (secS bs))))
  rw [totA_snoc]
  dsimp only
  omega
theorem fit_idle {R : Nat} {fs : FS} {bs : List Nat} (h1 : fs.length < 64) (h2 : totA fs + cn4 (bs.length + 4) ≤ R) : fitA R fs nmT (cnt (secS bs).length) = true :=
  fitA_of (Or.inr (by omega)) (by rw [secS_len]; unfold cnt; omega)
end Go.Proofs.YtgabklihgjjjeaaGreatDoor
/- snap XII: the bytes of a constant text; the laws' awake (under way). -/
namespace Go.Proofs.YtgabklihgjjjeaaGreatDoor
open Go.RowKit Go.Maps Go.Sort Go.Shelf pk
set_option linter.unusedVariables false
set_option linter.unusedSimpArgs false
theorem conv_1 (w : World) (x : Value) : (convert 22 22 (.slice (some ⟨w.heap.size, 0, none⟩) 1 1)).run Tryz.prog (w.alloc (.cells #[x] 5)) = .ok (.slice (some ⟨w.heap.size, 0, none⟩) 1 1) (w.alloc (.cells #[x] 5 (1, 2))) :=
  Go.Lib.run_convert_bytes_const w 22 5 #[x] 1 1 Tryz.underlying22 Tryz.underlying5
theorem bs_1 (w : World) (c : Nat) (h : c < 256) : Bs (w.alloc (.cells #[.int .u8 (c : Int)] 5 (1, 2))) (.slice (some ⟨w.heap.size, 0, none⟩) 1 1) [c] ∧ Safe (w.alloc (.cells #[.int .u8 (c : Int)] 5 (1, 2))) (.slice (some ⟨w.heap.size, 0, none⟩) 1 1) := by
  have hb : (w.alloc (.cells #[.int .u8 (c : Int)] 5 (1, 2))).heap[w.heap.size]? = some (.cells #[.int .u8 (c : Int)] 5 (1, 2)) := Go.heap_alloc_new w _
  have hby : By [c] := fun x hx => by
    have e : x = c := by simpa using hx
    rw [e]
    exact h
  refine ⟨⟨hby, _, _, rfl, by simp, by omega, fun e => (by cases e), fun _ => ⟨w.heap.size, 0, rfl, by simp, fun k hk => ?_⟩⟩, fun b off n c' e => ?_⟩
  · have : k = 0 := by simpa using hk
    subst this
    rw [cell_of_row _ _ _ _ _ _ hb]
    rfl
  · cases e
    exact ⟨_, _, _, hb, by unfold Dt; decide⟩
end Go.Proofs.YtgabklihgjjjeaaGreatDoor
/- snap XIII: the laws' awake . -/
namespace Go.Proofs.YtgabklihgjjjeaaGreatDoor
open Go.RowKit Go.Maps Go.Sort Go.Shelf pk
set_option linter.unusedVariables false
set_option linter.unusedSimpArgs false
theorem srt57 : ∀ (ks : List Nat), ks.Pairwise (· < ·) → (∀ n, n ∈ ks ↔ n = 7 ∨ n = 5) → ks = [5, 7]
  | [], _, h => by have := (h 7).2 (Or.inl rfl); simp at this
  | [a], _, h => by
    have h1 := (h 7).2 (Or.inl rfl)
    have h2 := (h 5).2 (Or.inr rfl)
    simp at h1 h2
    omega
  | a :: b :: r, hp, h => by
    have ha := (h a).1 (by simp)
    have hb := (h b).1 (by simp)
    have hab : a < b := (List.pairwise_cons.1 hp).1 b (by simp)
    have ea : a = 5 := by omega
    have eb : b = 7 := by omega
    cases r with
    | nil => rw [ea, eb]
    | cons c r =>
      have hc := (h c).1 (by simp)
      have hbc : b < c := (List.pairwise_cons.1 (List.pairwise_cons.1 hp).2).1 c (by simp)
      omega
theorem nums57 {fs : FS} {ks : List Nat} (nu : Nums fs ks) (h : ∀ n, n ≤ 999999999999 → nmS n ∈ nms fs → n = 7 ∨ n = 5) (h7 : nmS 7 ∈ nms fs) (h5 : nmS 5 ∈ nms fs) : ks = [5, 7] :=
  srt57 ks nu.srt (fun n => ⟨fun hn => h n ((nu.mem n).1 hn).1 ((nu.mem n).1 hn).2, fun hn => (nu.mem n).2 (by rcases hn with rfl | rfl; exact ⟨by omega, h7⟩; exact ⟨by omega, h5⟩)⟩)
theorem sl57 (w : World) : Sl KI (w.alloc (.cells #[.int .i64 5, .int .i64 7] 2)) (.slice (some ⟨w.heap.size, 0, none⟩) 2 2) [5, 7] := by
  have V := va_new w [.int .i64 5, .int .i64 7] 2
  refine ⟨_, 2, rfl, by simp, by omega, fun _ => ⟨w.heap.size, 0, rfl, V.lt, fun i x hi j u hu => ?_⟩⟩
  have hj : j = 0 := by
    have h1 := (List.getElem?_eq_some_iff.1 hu).1
    have h2 : (KI.enc x).length = 1 := rfl
    omega
  subst hj
  have hu' : (Value.int .i64 (x : Int)) = u := by
    have : (KI.enc x)[0]? = some (.int .i64 (x : Int)) := rfl
    rw [this] at hu
    injection hu
  subst hu'
  match i, hi with
  | 0, hi =>
    have : x = 5 := by simpa using hi.symm
    subst this
    exact V.cell 0 rfl
  | 1, hi =>
    have : x = 7 := by simpa using hi.symm
    subst this
    exact V.cell 1 rfl
  | i + 2, hi => simp at hi
set_option maxRecDepth 100000 in
set_option maxHeartbeats 1000000 in
theorem awake_ok (w : World) (hT : Pt10 w) : Calls Tryz.prog 7 #[] w fun e w' => e = .returned (.bool true) ∧ Below w.heap.size w w' := by
  have HT : Hid (PtB w.heap.size w) := ptB_of hT
  have hno0 : nmT ∉ nms [] := by simp [nms]
  have hw1 := wrS_idle 100 0 5 [] [97] hno0 (fit_idle (by simp) (by show 0 + cn4 5 ≤ 100; decide))
  have hno1 := nmT_wfs [] 5 [97] hno0
  have hw2 := wrS_idle 100 3 7 (wfs [] 5 [97]) [98] hno1 (fit_idle (by have := len_wfs [] 5 [97] hno0; simp at this; omega) (by have := tot_wfs [] 5 [97] hno0; have e : totA [] = 0 := rfl; have e2 : cn4 ([97].length + 4) = 1 := rfl; have e3 : cn4 ([98].length + 4) = 1 := rfl; omega))
  have HW1 := (show Hid _ from hw1)
  have HW2 := (show Hid _ from hw2)
  clear hw1 hw2
  go_enter Tryz.func7, Tryz.ntmps7
  go_wp2_with fail
  refine (new_any 100 w (by omega) (by omega)).mono ?_
  rintro e w1 ⟨p, m, rfl, h1, b1⟩
  have HD1 : Hid (DA w1 w.heap.size p m ⟨100, 0, 0, true, none, []⟩) := h1
  have HB1 := (show Hid _ from b1)
  have HT1 : Hid (PtB w.heap.size w1) := HT.out.on b1
  clear h1 b1
  unfold ptr
  have hcv := conv_1 w1 (.int .u8 97)
  go_wp2_with fail
  have hA := bs_1 w1 97 (by omega)
  have bA : Below w1.heap.size w1 (w1.alloc (.cells #[.int .u8 97] 5 (1, 2))) := (Below.refl _ _).alloc (Nat.le_refl _) _
  have CW := write_ok _ w.heap.size p m _ (HD1.out.step bA) 5 (by omega) (HT1.out.on (bA.mono HB1.out.size)) _ [97] hA.1 hA.2 (by simp) (by simp) (show 0 ≤ _ by omega) (show 0 ≤ _ by omega)
  rw [HW1.out] at CW
  refine Calls.mono CW ?_
  rintro e w2 ⟨rfl, L2⟩
  have HB2 : Hid (Below w.heap.size w w2) := (HB1.out.trans (bA.mono HB1.out.size)).trans L2.2.2
  have HD2 : Hid (DA w2 w.heap.size p m ⟨100, 3, 0, true, none, wfs [] 5 [97]⟩) := L2.1
  have HT2 : Hid (PtB w.heap.size w2) := HT.out.on HB2.out
  clear hA bA CW L2 hcv HD1 HB1 HT1
  have hcv := conv_1 w2 (.int .u8 98)
  go_wp2_with fail
  have hA := bs_1 w2 98 (by omega)
  have bA : Below w2.heap.size w2 (w2.alloc (.cells #[.int .u8 98] 5 (1, 2))) := (Below.refl _ _).alloc (Nat.le_refl _) _
  have CW := write_ok _ w.heap.size p m _ (HD2.out.step bA) 7 (by omega) (HT2.out.on (bA.mono HB2.out.size)) _ [98] hA.1 hA.2 (by simp) (by simp) (show 3 ≤ _ by omega) (show 0 ≤ _ by omega)
  rw [HW2.out] at CW
  refine Calls.mono CW ?_
  rintro e w3 ⟨rfl, L3⟩
  have HB3 : Hid (Below w.heap.size w w3) := (HB2.out.trans (bA.mono HB2.out.size)).trans L3.2.2
  have HD3 : Hid (DA w3 w.heap.size p m ⟨100, 6, 0, true, none, wfs (wfs [] 5 [97]) 7 [98]⟩) := L3.1
  have HT3 : Hid (PtB w.heap.size w3) := HT.out.on HB3.out
  clear hA bA CW L3 hcv HD2 HB2 HT2
  have hnm : ∀ n, n ≤ 999999999999 → nmS n ∈ nms (wfs (wfs [] 5 [97]) 7 [98]) → n = 7 ∨ n = 5 := fun n hn h => by
    rcases (nms_wfs _ 7 [98] hno1 _).1 h with e | e
    · exact Or.inl (nmS_inj hn (by omega) e)
    · rcases (nms_wfs _ 5 [97] hno0 _).1 e with e | e
      · exact Or.inr (nmS_inj hn (by omega) e)
      · simp [nms] at e
  have hin7 : nmS 7 ∈ nms (wfs (wfs [] 5 [97]) 7 [98]) := (nms_wfs _ 7 [98] hno1 _).2 (Or.inl rfl)
  have hin5 : nmS 5 ∈ nms (wfs (wfs [] 5 [97]) 7 [98]) := (nms_wfs _ 7 [98] hno1 _).2 (Or.inr ((nms_wfs _ 5 [97] hno0 _).2 (Or.inl rfl)))
  have by97 : By [97] := fun x hx => by have e : x = 97 := (by simpa using hx); omega
  have by98 : By [98] := fun x hx => by have e : x = 98 := (by simpa using hx); omega
  have hsn : Snp (wfs (wfs [] 5 [97]) 7 [98]) := snp_wfs _ hno1 (by omega) (snp_wfs _ hno0 (by omega) (fun l hl => by simp [nms] at hl))
  have hln : (wfs (wfs [] 5 [97]) 7 [98]).length ≤ 64 := by have h1 := len_wfs _ 7 [98] hno1; have h2 := len_wfs [] 5 [97] hno0; simp at h2; omega
  have HLI := (show Hid _ from fun w' (k : Below w3.heap.size w3 w') => list_ok w' w.heap.size p m _ (HD3.out.step k) rfl hsn (Nat.le_trans hln (by omega)))
  have HLO := (show Hid _ from load_ok w3 w.heap.size p m _ HD3.out rfl hsn hln HT3.out (fun n => if n = 7 then [98] else [97]) (fun n hn h => by
    rcases hnm n hn h with rfl | rfl
    · exact whl_same _ 7 [98] hno1 by98 (by simp) (by simp)
    · exact whl_other _ 7 5 [98] [97] hno1 (by omega) (by omega) (by omega) (whl_same _ 5 [97] hno0 by97 (by simp) (by simp))))
  have HNM := (show Hid _ from And.intro hnm (And.intro hin7 hin5))
  clear hnm hin7 hin5 by97 by98 hsn hln HW1 HW2 hno0 hno1
  go_wp2_with fail
  refine Calls.mono HLO.out ?_
  rintro e w4 ⟨⟨k, u, rfl, ⟨k1, k2, k3⟩, hbs, _⟩ | ⟨rfl, hn⟩, b4⟩
  rotate_left
  · exact absurd HNM.out.2.1 (hn 7 (by omega))
  obtain rfl : k = 7 := by
    rcases HNM.out.1 k k1 k2 with e | e
    · exact e
    · have := k3 7 (by omega) HNM.out.2.1
      omega
  rw [if_pos rfl] at hbs
  have HBS := (show Hid _ from hbs)
  have HB4 := (show Hid _ from b4)
  obtain ⟨ua, un, uc, rfl, hun⟩ : ∃ a n c, u = .slice a n c ∧ n = 1 := by obtain ⟨_, a, c, e, _⟩ := hbs; exact ⟨_, _, _, e, rfl⟩
  subst hun
  clear k1 k2 k3 hbs b4 HLO
  obtain ⟨bb, boff, rfl, bcell⟩ : ∃ b off, ua = some ⟨b, off, none⟩ ∧ w4.cell? ⟨b, off, none⟩ = some (.int .u8 98) := by
    obtain ⟨_, a, c, e, _, _, _, h4⟩ := HBS.out
    obtain ⟨b, off, ea, _, hx⟩ := h4 (by simp)
    injection e with e1 _ _
    exact ⟨b, off, by rw [e1, ea], hx 0 (by simp)⟩
  have hconv := run_convert_bytes_arg (P := Tryz.prog) w4 22 5 Tryz.underlying22 Tryz.underlying5 bb boff 1 uc [98] rfl (fun i hi => by obtain rfl : i = 0 := (by omega); exact bcell) 9 Tryz.underlying9
  rw [show strOfNums [98] = ⟨#[98]⟩ from rfl] at hconv
  go_wp2_with fail
  refine Calls.mono (HLI.out _ HB4.out) ?_
  rintro e w5 ⟨v, ks, rfl, o5, nu, b5⟩
  have hks : ks = [5, 7] := nums57 nu HNM.out.1 HNM.out.2.1 HNM.out.2.2
  subst hks
  have HO5 := (show Hid _ from o5.sl)
  have HB5 := (show Hid _ from HB3.out.trans ((HB4.out.trans (b5.mono HB4.out.size)).mono HB3.out.size))
  obtain ⟨la, lc, rfl, _⟩ := o5.form
  clear o5 nu b5 hconv bcell HLI
  go_wp2_with fail
  have b6 : Below w5.heap.size w5 (w5.alloc (.cells #[.int .i64 5, .int .i64 7] 2)) := (Below.refl _ _).alloc (Nat.le_refl _) _
  refine (sameInts_ok _ _ _ [5, 7] (HO5.out.step b6) (sl57 w5) (by simp)).mono ?_
  rintro e w6 ⟨rfl, b7⟩
  have HB7 := (show Hid _ from HB5.out.trans ((b6.trans (b7.mono b6.size)).mono HB5.out.size))
  clear b6 b7
  go_wp2_with fail
  go_ret
  exact ⟨rfl, HB7.out⟩
end Go.Proofs.YtgabklihgjjjeaaGreatDoor
/- snap XV: snapshots in plain words: what a Write and a Clean leave. -/
namespace Go.Proofs.YtgabklihgjjjeaaGreatDoor
open Go.RowKit Go.Maps Go.Sort Go.Shelf pk
set_option linter.unusedVariables false
set_option linter.unusedSimpArgs false
/-- all snapshots are whole -/
structure Snaps (fs : FS) (F : Nat → List Nat) : Prop where
  snp : Snp fs
  whl : ∀ n, n ≤ 999999999999 → nmS n ∈ nms fs → Whl fs n (F n)
/-- the greatest number -/
structure Topp (fs : FS) (k : Nat) : Prop where
  le : k ≤ 999999999999
  mem : nmS k ∈ nms fs
  max : ∀ n, n ≤ 999999999999 → nmS n ∈ nms fs → n ≤ k
theorem nms_filter (fs : FS) (Q : List UInt8 → Bool) (l : List UInt8) : l ∈ nms (fs.filter (fun t => Q t.1)) ↔ l ∈ nms fs ∧ Q l = true := by
  unfold nms
  simp only [List.mem_map, List.mem_filter]
  constructor
  · rintro ⟨t, ⟨h1, h2⟩, rfl⟩
    exact ⟨⟨t, h1, rfl⟩, h2⟩
  · rintro ⟨⟨t, h1, rfl⟩, h2⟩
    exact ⟨t, ⟨h1, h2⟩, rfl⟩
/-- without the draft -/
def rmT (fs : FS) : FS := fs.filter (fun t => decide (t.1 ≠ nmT))
theorem rmT_op (fs : FS) : doOp ⟨4, nmT, [], 0⟩ fs = rmT fs := rfl
theorem rmT_mem (fs : FS) (l : List UInt8) : l ∈ nms (rmT fs) ↔ l ∈ nms fs ∧ l ≠ nmT := by
  have := nms_filter fs (fun l => decide (l ≠ nmT)) l
  simp only [decide_eq_true_eq] at this
  exact this
theorem rmT_no (fs : FS) : nmT ∉ nms (rmT fs) := fun h => ((rmT_mem fs nmT).1 h).2 rfl
theorem rmT_same {fs : FS} (h : nmT ∉ nms fs) : rmT fs = fs := List.filter_eq_self.2 (fun t ht => by
  have : t.1 ≠ nmT := fun e => h (e ▸ List.mem_map.2 ⟨t, ht, rfl⟩)
  simpa using this)
theorem rmT_lk (fs : FS) (n : Nat) : lk (rmT fs) (nmS n) = lk fs (nmS n) := lk_filter _ _ _ (fun t ht => by rw [ht]; simpa using nmS_ne n)
theorem rmT_nmS (fs : FS) (n : Nat) : nmS n ∈ nms (rmT fs) ↔ nmS n ∈ nms fs := by rw [rmT_mem]; exact ⟨fun h => h.1, fun h => ⟨h, nmS_ne n⟩⟩
theorem rmT_len (fs : FS) : (rmT fs).length ≤ fs.length := List.length_filter_le _ _
theorem rmT_tot (fs : FS) : totA (rmT fs) ≤ totA fs := totA_filter _ _
theorem Whl.lk {fs gs : FS} {n : Nat} {bs : List Nat} (h : Whl fs n bs) (e : lk gs (nmS n) = lk fs (nmS n)) : Whl gs n bs := by
  obtain ⟨⟨t, h1, h2⟩, h3⟩ := h
  exact ⟨⟨t, by rw [e]; exact h1, h2⟩, h3⟩
theorem Snaps.rm {fs : FS} {F : Nat → List Nat} (h : Snaps fs F) : Snaps (rmT fs) F :=
  ⟨fun l hl => h.snp l ((rmT_mem fs l).1 hl).1, fun n hn hm => (h.whl n hn ((rmT_nmS fs n).1 hm)).lk (rmT_lk fs n)⟩
theorem Snaps.write {fs : FS} {F : Nat → List Nat} (h : Snaps fs F) (hno : nmT ∉ nms fs) {n : Nat} (hn : n ≤ 999999999999) {bs : List Nat} (hb : By bs) (h0 : 0 < bs.length) (hl : bs.length ≤ 400000) :
    Snaps (wfs fs n bs) (fun i => if i = n then bs else F i) := by
  refine ⟨snp_wfs bs hno hn h.snp, fun i hi hm => ?_⟩
  by_cases e : i = n
  · subst e
    rw [if_pos rfl]
    exact whl_same fs i bs hno hb h0 hl
  · rw [if_neg e]
    have hm2 : nmS i ∈ nms fs := ((nms_wfs fs n bs hno _).1 hm).resolve_left (fun e2 => e (nmS_inj hi hn e2))
    exact whl_other fs n i bs (F i) hno hn hi e (h.whl i hi hm2)
theorem Topp.up {fs : FS} {n : Nat} {bs : List Nat} (h : ∀ i, i ≤ 999999999999 → nmS i ∈ nms fs → i ≤ n) (hno : nmT ∉ nms fs) (hn : n ≤ 999999999999) : Topp (wfs fs n bs) n :=
  ⟨hn, (nms_wfs fs n bs hno _).2 (Or.inl rfl), fun i hi hm => by
    rcases (nms_wfs fs n bs hno _).1 hm with e | e
    · exact Nat.le_of_eq (nmS_inj hi hn e)
    · exact h i hi e⟩
theorem Topp.keep {fs : FS} {k n : Nat} {bs : List Nat} (h : Topp fs k) (hno : nmT ∉ nms fs) (hn : n ≤ 999999999999) (hk : n ≤ k) : Topp (wfs fs n bs) k :=
  ⟨h.le, (nms_wfs fs n bs hno _).2 (Or.inr h.mem), fun i hi hm => by
    rcases (nms_wfs fs n bs hno _).1 hm with e | e
    · rw [nmS_inj hi hn e]; exact hk
    · exact h.max i hi e⟩
theorem wrS_free (R o n : Nat) (fs : FS) (bs : List Nat) (h1 : fs.length < 64) (h2 : totA fs + cn4 (bs.length + 4) ≤ R) :
    ∃ o', o' ≤ o + 4 ∧ wrS ⟨R, o, 0, true, none, fs⟩ n bs = (0, ⟨R, o', 0, true, none, wfs (rmT fs) n bs⟩) := by
  have hf : fitA R (rmT fs) nmT (cnt (secS bs).length) = true := fit_idle (Nat.lt_of_le_of_lt (rmT_len fs) h1) (Nat.le_trans (Nat.add_le_add_right (rmT_tot fs) _) h2)
  by_cases h : nmT ∈ nms fs
  · have e0 : oper ⟨R, o, 0, true, none, fs⟩ ⟨4, nmT, [], 0⟩ = (0, ⟨R, o + 1, 0, true, none, rmT fs⟩) := oper_idle nmT_is (fun h => by cases h) ((lk_isSome fs nmT).2 h)
    have e1 : wr1 ⟨R, o, 0, true, none, fs⟩ = (0, ⟨R, o + 1, 0, true, none, rmT fs⟩) := by unfold wr1; rw [e0]; rfl
    have e2 : oper ⟨R, o + 1, 0, true, none, rmT fs⟩ ⟨4, nmT, [], 0⟩ = (7, ⟨R, o + 1, 0, true, none, rmT fs⟩) := oper_none nmT_is (fun h => by cases h) ((lk_none _ nmT).2 (rmT_no fs))
    have e3 : wr1 ⟨R, o + 1, 0, true, none, rmT fs⟩ = (0, ⟨R, o + 1, 0, true, none, rmT fs⟩) := by unfold wr1; rw [e2]; rfl
    have e4 : wrS ⟨R, o, 0, true, none, fs⟩ n bs = wrS ⟨R, o + 1, 0, true, none, rmT fs⟩ n bs := by unfold wrS; rw [e1, e3]
    exact ⟨o + 1 + 1 + 1 + 1, by omega, by rw [e4]; exact wrS_idle R (o + 1) n (rmT fs) bs (rmT_no fs) hf⟩
  · rw [rmT_same h] at hf ⊢
    exact ⟨o + 1 + 1 + 1, by omega, wrS_idle R o n fs bs h hf⟩
theorem cfs_nmS {fs : FS} {k : Nat} {ks : List Nat} (hk : k ≤ 999999999999) (hks : ∀ a ∈ ks, a ≤ 999999999999) : lk (cfs k ks fs) (nmS k) = lk fs (nmS k) :=
  lk_filter _ _ _ (fun t ht => by
    rw [ht]
    simp only [decide_eq_true_eq]
    exact fun a ha hne e => hne (nmS_inj (hks a ha) hk e.symm))
theorem cfs_names {fs : FS} {k : Nat} {ks : List Nat} {l : List UInt8} (h : l ∈ nms (cfs k ks fs)) : l ∈ nms fs ∧ ∀ a ∈ ks, a ≠ k → l ≠ nmS a := by
  have := (nms_filter fs (fun l => decide (∀ a ∈ ks, a ≠ k → l ≠ nmS a)) l).1 h
  exact ⟨this.1, by simpa using this.2⟩
theorem cfs_only {fs : FS} {k : Nat} {ks : List Nat} (nu : Nums fs ks) : ∀ n, n ≤ 999999999999 → nmS n ∈ nms (cfs k ks fs) → n = k := fun n hn h => by
  obtain ⟨h1, h2⟩ := cfs_names h
  by_cases e : n = k
  · exact e
  · exact absurd rfl (h2 n ((nu.mem n).2 ⟨hn, h1⟩) e)
theorem cfs_topp {fs : FS} {k : Nat} {ks : List Nat} (nu : Nums fs ks) (h : Topp fs k) : Topp (cfs k ks fs) k := by
  refine ⟨h.le, ?_, fun n hn hm => Nat.le_of_eq (cfs_only nu n hn hm)⟩
  rw [← lk_isSome, cfs_nmS h.le (fun a ha => ((nu.mem a).1 ha).1), lk_isSome]
  exact h.mem
theorem cfs_snaps {fs : FS} {k : Nat} {ks : List Nat} {F : Nat → List Nat} (nu : Nums fs ks) (h : Topp fs k) (s : Snaps fs F) : Snaps (cfs k ks fs) F :=
  ⟨fun l hl => s.snp l (cfs_names hl).1, fun n hn hm => by
    have e := cfs_only nu n hn hm
    subst e
    exact (s.whl n hn (cfs_names hm).1).lk (cfs_nmS hn (fun a ha => ((nu.mem a).1 ha).1))⟩
theorem cfs_len (fs : FS) (k : Nat) (ks : List Nat) : (cfs k ks fs).length ≤ fs.length := List.length_filter_le _ _
theorem nums_one {fs : FS} {k : Nat} {ks : List Nat} (nu : Nums fs ks) (h : Topp fs k) (ho : ∀ n, n ≤ 999999999999 → nmS n ∈ nms fs → n = k) : ks = [k] := by
  have hk : k ∈ ks := (nu.mem k).2 ⟨h.le, h.mem⟩
  have ha : ∀ a ∈ ks, a = k := fun a ha => ho a ((nu.mem a).1 ha).1 ((nu.mem a).1 ha).2
  have hs := nu.srt
  match ks, hk, ha, hs with
  | [a], hk, ha, _ => rw [ha a (by simp)]
  | a :: b :: r, _, ha, hs =>
    have h1 := ha a (by simp)
    have h2 := ha b (by simp)
    have h3 := (List.pairwise_cons.1 hs).1 b (by simp)
    omega
theorem snaps_nil (F : Nat → List Nat) : Snaps [] F := ⟨fun l hl => by simp [nms] at hl, fun n _ h => by simp [nms] at h⟩
/-- a row of one number -/
theorem sl1 (w : World) (k : Nat) : Sl KI (w.alloc (.cells #[.int .i64 (k : Int)] 2)) (.slice (some ⟨w.heap.size, 0, none⟩) 1 1) [k] := by
  have V := va_new w [.int .i64 (k : Int)] 2
  refine ⟨_, 1, rfl, by simp, by omega, fun _ => ⟨w.heap.size, 0, rfl, V.lt, fun i x hi j u hu => ?_⟩⟩
  have hj : j = 0 := by
    have h1 := (List.getElem?_eq_some_iff.1 hu).1
    have h2 : (KI.enc x).length = 1 := rfl
    omega
  subst hj
  have hu' : (Value.int .i64 (x : Int)) = u := by
    have : (KI.enc x)[0]? = some (.int .i64 (x : Int)) := rfl
    rw [this] at hu
    injection hu
  subst hu'
  match i, hi with
  | 0, hi =>
    have : x = k := by simpa using hi.symm
    subst this
    exact V.cell 0 rfl
  | i + 1, hi => simp at hi
end Go.Proofs.YtgabklihgjjjeaaGreatDoor
