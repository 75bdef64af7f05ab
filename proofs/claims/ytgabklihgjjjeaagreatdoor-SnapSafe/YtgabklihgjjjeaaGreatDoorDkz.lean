/- disk XXV: the closures of Remove and Rename. -/
import Derived.Test.YtgabklihgjjjeaaGreatDoorDky
namespace Go.Proofs.YtgabklihgjjjeaaGreatDoor
open Go.RowKit Go.Maps Go.Sort Go.Shelf pk
set_option linter.unusedVariables false
set_option linter.unusedSimpArgs false

theorem but_kee {w w' : World} {B p m : Nat} {x : DK} (h : Dsk w B p m x) (k : But (fun i => i = m) w w') : Kee w w' ∧ Below B w w' :=
  ⟨kee_but k (fun i hi cs T z hc => by obtain ⟨_, _, hmw⟩ := map_blk h.mp; rw [hi, hmw] at hc; cases hc), k.below (Nat.le_trans h.lo.1 (Nat.le_of_lt h.va.lt)) (fun i hi => by rw [hi]; exact h.lo.2)⟩
set_option maxRecDepth 100000 in
theorem rem1_ok (w : World) (B p m : Nat) (x : DK) (h : Dsk w B p m x) (Bd Ba : Nat) (s : ByteArray) (hs : s.size ≤ 16) (hd : VA w Bd [ptr p] 37) (ha : VA w Ba [.string s] 9) :
    Calls Tryz.prog 59 #[ptr Bd, ptr Ba] w fun r w' => (∃ v, r = .returned v) ∧ Dsk w' B p m { x with es := x.es.filter (fun e => decide (e.nm ≠ s.data.toList)) } ∧ Kee w w' ∧ Below B w w' := by
  have hsl : s.data.toList.length ≤ 16 := by have : s.data.toList.length = s.size := by cases s; rfl
                                             omega
  have hp : (ptr p) = .pointer (some ⟨p, 0, none⟩) := rfl
  have hpd : (ptr Bd) = .pointer (some ⟨Bd, 0, none⟩) := rfl
  have hpa : (ptr Ba) = .pointer (some ⟨Ba, 0, none⟩) := rfl
  rw [hp] at hd
  rw [hpd, hpa]
  have HH := (show Hid _ from h)
  go_enter Tryz.func59, Tryz.ntmps59
  go_wp2_with fail
  refine wp_region_noPanic ?_
  refine wp_region_held_drew (S := fun V => VA V p [.int .i64 x.room, .map (some m), .bool x.on, .int .i64 x.ops, .int .i64 x.left, x.und] 73 ∧ VA V Bd [.pointer (some ⟨p, 0, none⟩)] 37 ∧ VA V Ba [.string s] 9) (by kernel_rfl) ⟨h.va.drew, hd.drew, ha.drew⟩ ?_
  intro hHeld
  have b0 : Below w.heap.size w w.drew := (Below.refl _ _).drew
  generalize w.drew = W0 at *
  refine takeD 0 2 (.pointer (some ⟨p, 0, none⟩)) (by exact rfl) rfl (by kernel_rfl) (by kernel_rfl) (by kernel_rfl) (fun _ _ _ h => h) (Or.inl ⟨by rfl, ?_⟩) (by assumption) ?_
  · intro wq hS
    have c := hS.2.1.cell 0 rfl
    go_simp
  try simp only [Act.put, List.setIfInBounds_toArray, List.set_cons_zero, List.set_cons_succ]
  refine takeD 1 3 (.pointer (some ⟨p, 0, none⟩)) (by exact rfl) rfl (by kernel_rfl) (by kernel_rfl) (by kernel_rfl) (fun _ _ _ h => h) (Or.inl ⟨by rfl, ?_⟩) (by assumption) ?_
  · intro wq hS
    go_simp
  try simp only [Act.put, List.setIfInBounds_toArray, List.set_cons_zero, List.set_cons_succ]
  refine takeD 2 4 (.pointer (some ⟨p, 1, none⟩)) (by exact rfl) rfl (by kernel_rfl) (by kernel_rfl) (by kernel_rfl) (fun _ _ _ h => h) (Or.inl ⟨by rfl, ?_⟩) (by assumption) ?_
  · intro wq hS
    go_simp
  try simp only [Act.put, List.setIfInBounds_toArray, List.set_cons_zero, List.set_cons_succ]
  refine takeD 3 5 (.map (some m)) (by exact rfl) rfl (by kernel_rfl) (by kernel_rfl) (by kernel_rfl) (fun _ _ _ h => h) (Or.inl ⟨by rfl, ?_⟩) (by assumption) ?_
  · intro wq hS
    have c := hS.1.cell 1 (v := .map (some m)) rfl
    go_simp
  try simp only [Act.put, List.setIfInBounds_toArray, List.set_cons_zero, List.set_cons_succ]
  refine takeD 4 6 (.string s) (by exact rfl) rfl (by kernel_rfl) (by kernel_rfl) (by kernel_rfl) (fun _ _ _ h => h) (Or.inl ⟨by rfl, ?_⟩) (by assumption) ?_
  · intro wq hS
    have c := hS.2.2.cell 0 rfl
    go_simp
  try simp only [Act.put, List.setIfInBounds_toArray, List.set_cons_zero, List.set_cons_succ]
  refine wpAnyH_ready (rs := [5]) (by kernel_rfl) (by simp) ?_
  refine AllReadyH.cons (by exact rfl) (fun K hK => ?_) AllReadyH.nil
  have M5 : MapF W0 9 m x.es.length (mf x.es) := HH.out.mp.step b0
  refine dlMd (by rfl) _ _ 71 9 rfl 76 keyedS Tryz.underlying71 m x.es.length (mf x.es) (by rfl) M5 (.string s) (.string s.data.toList) (by rfl) (keyS (by omega)) ?_
  intro W7 M7 t7
  obtain ⟨ms, mc, hmb⟩ := map_blk M5
  have hb7 := turned_but t7
  have P7 := hHeld.1.but hb7 (fun er => by rw [← er, hHeld.1.blk] at hmb; cases hmb)
  have F7 := hHeld.2.1.but hb7 (fun er => by rw [← er, hHeld.2.1.blk] at hmb; cases hmb)
  have G7 := hHeld.2.2.but hb7 (fun er => by rw [← er, hHeld.2.2.blk] at hmb; cases hmb)
  refine hK.out _ _ ⟨P7, F7, G7⟩ (fun hHeld7 => ?_)
  clear hK K
  refine wpAnyH_done (by kernel_rfl) ?_ _
  refine NoPanic.normal ?_
  have bt7 : But (fun i => i = m) w W7 := (below_but b0 _).trans hb7 (fun _ _ h => h)
  have hk := but_kee HH.out bt7
  have hD := HH.out.del hsl bt7 M7
  have HF := (show Hid _ from And.intro hD hk)
  clear hk hD P7 F7 G7 hHeld hHeld7 M5 M7 t7 hb7 hmb
  go_wp2_with fail
  go_end0
  exact ⟨⟨_, rfl⟩, HF.out⟩
set_option maxRecDepth 100000 in
theorem ren1_ok (w : World) (B p m : Nat) (x : DK) (h : Dsk w B p m x) (Bd Ba Bf Bb : Nat) (s u : ByteArray) (hs : s.size ≤ 16) (hu : u.size ≤ 16) (f : Ent) (hf : fd x.es s.data.toList = some f) (hd : VA w Bd [ptr p] 37) (ha : VA w Ba [.string s] 9) (hfv : VA w Bf [ptr f.q] 76) (hb : VA w Bb [.string u] 9) (es2 : List Ent) (he2 : es2 = (x.es.filter (fun e => decide (e.nm ≠ s.data.toList))).filter (fun e => decide (e.nm ≠ u.data.toList)) ++ [{ f with nm := u.data.toList }]) :
    Calls Tryz.prog 74 #[ptr Bd, ptr Ba, ptr Bf, ptr Bb] w fun r w' => (∃ v, r = .returned v) ∧ Dsk w' B p m { x with es := es2 } ∧ Kee w w' ∧ Below B w w' := by
  have HE2 : Hid (es2 = (x.es.filter (fun e => decide (e.nm ≠ s.data.toList))).filter (fun e => decide (e.nm ≠ u.data.toList)) ++ [{ f with nm := u.data.toList }]) := he2
  clear he2
  have hsl : s.data.toList.length ≤ 16 := by have : s.data.toList.length = s.size := by cases s; rfl
                                             omega
  have hul : u.data.toList.length ≤ 16 := by have : u.data.toList.length = u.size := by cases u; rfl
                                             omega
  have hp : (ptr p) = .pointer (some ⟨p, 0, none⟩) := rfl
  have hpd : (ptr Bd) = .pointer (some ⟨Bd, 0, none⟩) := rfl
  have hpa : (ptr Ba) = .pointer (some ⟨Ba, 0, none⟩) := rfl
  have hpf : (ptr Bf) = .pointer (some ⟨Bf, 0, none⟩) := rfl
  have hpb : (ptr Bb) = .pointer (some ⟨Bb, 0, none⟩) := rfl
  have hpq : (ptr f.q) = .pointer (some ⟨f.q, 0, none⟩) := rfl
  rw [hp] at hd
  rw [hpq] at hfv
  rw [hpd, hpa, hpf, hpb]
  have HH := (show Hid _ from h)
  have HBf := (show Hid _ from hfv)
  have HBb := (show Hid _ from hb)
  have HBd := (show Hid _ from hd)
  clear hfv hb
  go_enter Tryz.func74, Tryz.ntmps74
  go_wp2_with fail
  refine wp_region_noPanic ?_
  refine wp_region_held_drew (S := fun V => VA V p [.int .i64 x.room, .map (some m), .bool x.on, .int .i64 x.ops, .int .i64 x.left, x.und] 73 ∧ VA V Bd [.pointer (some ⟨p, 0, none⟩)] 37 ∧ VA V Ba [.string s] 9) (by kernel_rfl) ⟨h.va.drew, hd.drew, ha.drew⟩ ?_
  intro hHeld
  have b0 : Below w.heap.size w w.drew := (Below.refl _ _).drew
  generalize w.drew = W0 at *
  refine takeD 0 4 (.pointer (some ⟨p, 0, none⟩)) (by exact rfl) rfl (by kernel_rfl) (by kernel_rfl) (by kernel_rfl) (fun _ _ _ h => h) (Or.inl ⟨by rfl, ?_⟩) (by assumption) ?_
  · intro wq hS
    have c := hS.2.1.cell 0 rfl
    go_simp
  try simp only [Act.put, List.setIfInBounds_toArray, List.set_cons_zero, List.set_cons_succ]
  refine takeD 1 5 (.pointer (some ⟨p, 0, none⟩)) (by exact rfl) rfl (by kernel_rfl) (by kernel_rfl) (by kernel_rfl) (fun _ _ _ h => h) (Or.inl ⟨by rfl, ?_⟩) (by assumption) ?_
  · intro wq hS
    go_simp
  try simp only [Act.put, List.setIfInBounds_toArray, List.set_cons_zero, List.set_cons_succ]
  refine takeD 2 6 (.pointer (some ⟨p, 1, none⟩)) (by exact rfl) rfl (by kernel_rfl) (by kernel_rfl) (by kernel_rfl) (fun _ _ _ h => h) (Or.inl ⟨by rfl, ?_⟩) (by assumption) ?_
  · intro wq hS
    go_simp
  try simp only [Act.put, List.setIfInBounds_toArray, List.set_cons_zero, List.set_cons_succ]
  refine takeD 3 7 (.map (some m)) (by exact rfl) rfl (by kernel_rfl) (by kernel_rfl) (by kernel_rfl) (fun _ _ _ h => h) (Or.inl ⟨by rfl, ?_⟩) (by assumption) ?_
  · intro wq hS
    have c := hS.1.cell 1 (v := .map (some m)) rfl
    go_simp
  try simp only [Act.put, List.setIfInBounds_toArray, List.set_cons_zero, List.set_cons_succ]
  refine takeD 4 8 (.string s) (by exact rfl) rfl (by kernel_rfl) (by kernel_rfl) (by kernel_rfl) (fun _ _ _ h => h) (Or.inl ⟨by rfl, ?_⟩) (by assumption) ?_
  · intro wq hS
    have c := hS.2.2.cell 0 rfl
    go_simp
  try simp only [Act.put, List.setIfInBounds_toArray, List.set_cons_zero, List.set_cons_succ]
  refine wpAnyH_ready (rs := [5]) (by kernel_rfl) (by simp) ?_
  refine AllReadyH.cons (by exact rfl) (fun K hK => ?_) AllReadyH.nil
  have M5 : MapF W0 9 m x.es.length (mf x.es) := HH.out.mp.step b0
  refine dlMd (by rfl) _ _ 71 9 rfl 76 keyedS Tryz.underlying71 m x.es.length (mf x.es) (by rfl) M5 (.string s) (.string s.data.toList) (by rfl) (keyS (by omega)) ?_
  intro W7 M7 t7
  obtain ⟨ms, mc, hmb⟩ := map_blk M5
  have hb7 := turned_but t7
  have P7 := hHeld.1.but hb7 (fun er => by rw [← er, hHeld.1.blk] at hmb; cases hmb)
  have F7 := hHeld.2.1.but hb7 (fun er => by rw [← er, hHeld.2.1.blk] at hmb; cases hmb)
  have G7 := hHeld.2.2.but hb7 (fun er => by rw [← er, hHeld.2.2.blk] at hmb; cases hmb)
  refine hK.out _ _ ⟨P7, F7, G7⟩ (fun hHeld7 => ?_)
  clear hK K
  refine wpAnyH_done (by kernel_rfl) ?_ _
  refine NoPanic.normal ?_
  have bt7 : But (fun i => i = m) w W7 := (below_but b0 _).trans hb7 (fun _ _ h => h)
  have HBT := (show Hid _ from bt7)
  have HK := (show Hid _ from but_kee HH.out bt7)
  have HD : Hid (Dsk W7 B p m { x with es := x.es.filter (fun e => decide (e.nm ≠ s.data.toList)) }) := HH.out.del hsl bt7 M7
  have hdt : ¬ Dt 37 ∧ ¬ Dt 76 ∧ ¬ Dt 9 := by unfold Dt; decide
  have VD := HBd.out.kee HK.out.1 hdt.1
  have VF := HBf.out.kee HK.out.1 hdt.2.1
  have VB := HBb.out.kee HK.out.1 hdt.2.2
  clear P7 F7 G7 hHeld hHeld7 M5 M7 t7 hb7 hmb bt7 b0 hd ha
  go_wp2_with fail
  refine wp_region_noPanic ?_
  refine wp_region_held_drew (S := fun V => VA V p [.int .i64 x.room, .map (some m), .bool x.on, .int .i64 x.ops, .int .i64 x.left, x.und] 73 ∧ VA V Bd [.pointer (some ⟨p, 0, none⟩)] 37 ∧ VA V Bf [.pointer (some ⟨f.q, 0, none⟩)] 76 ∧ VA V Bb [.string u] 9) (by kernel_rfl) ⟨HD.out.va.drew, VD.drew, VF.drew, VB.drew⟩ ?_
  intro hHeld
  have b0 : Below W7.heap.size W7 W7.drew := (Below.refl _ _).drew
  generalize W7.drew = W8 at *
  refine takeD 0 9 (.pointer (some ⟨p, 0, none⟩)) (by exact rfl) rfl (by kernel_rfl) (by kernel_rfl) (by kernel_rfl) (fun _ _ _ h => h) (Or.inl ⟨by rfl, ?_⟩) (by assumption) ?_
  · intro wq hS
    have c := hS.2.1.cell 0 rfl
    go_simp
  try simp only [Act.put, List.setIfInBounds_toArray, List.set_cons_zero, List.set_cons_succ]
  refine takeD 1 10 (.pointer (some ⟨p, 0, none⟩)) (by exact rfl) rfl (by kernel_rfl) (by kernel_rfl) (by kernel_rfl) (fun _ _ _ h => h) (Or.inl ⟨by rfl, ?_⟩) (by assumption) ?_
  · intro wq hS
    go_simp
  try simp only [Act.put, List.setIfInBounds_toArray, List.set_cons_zero, List.set_cons_succ]
  refine takeD 2 11 (.pointer (some ⟨p, 1, none⟩)) (by exact rfl) rfl (by kernel_rfl) (by kernel_rfl) (by kernel_rfl) (fun _ _ _ h => h) (Or.inl ⟨by rfl, ?_⟩) (by assumption) ?_
  · intro wq hS
    go_simp
  try simp only [Act.put, List.setIfInBounds_toArray, List.set_cons_zero, List.set_cons_succ]
  refine takeD 3 12 (.map (some m)) (by exact rfl) rfl (by kernel_rfl) (by kernel_rfl) (by kernel_rfl) (fun _ _ _ h => h) (Or.inl ⟨by rfl, ?_⟩) (by assumption) ?_
  · intro wq hS
    have c := hS.1.cell 1 (v := .map (some m)) rfl
    go_simp
  try simp only [Act.put, List.setIfInBounds_toArray, List.set_cons_zero, List.set_cons_succ]
  refine takeD 4 13 (.string u) (by exact rfl) rfl (by kernel_rfl) (by kernel_rfl) (by kernel_rfl) (fun _ _ _ h => h) (Or.inl ⟨by rfl, ?_⟩) (by assumption) ?_
  · intro wq hS
    have c := hS.2.2.2.cell 0 rfl
    go_simp
  try simp only [Act.put, List.setIfInBounds_toArray, List.set_cons_zero, List.set_cons_succ]
  refine takeD 6 15 (.pointer (some ⟨f.q, 0, none⟩)) (by exact rfl) rfl (by kernel_rfl) (by kernel_rfl) (by kernel_rfl) (fun _ _ _ h => h) (Or.inl ⟨by rfl, ?_⟩) (by assumption) ?_
  · intro wq hS
    have c := hS.2.2.1.cell 0 rfl
    go_simp
  try simp only [Act.put, List.setIfInBounds_toArray, List.set_cons_zero, List.set_cons_succ]
  refine wpAnyH_ready (rs := [5]) (by kernel_rfl) (by simp) ?_
  refine AllReadyH.cons (by exact rfl) (fun K hK => ?_) AllReadyH.nil
  go_simp
  refine (clone_ok u _ (by omega)).mono ?_
  rintro r W9 ⟨rfl, b9⟩
  go_wp2_with fail
  refine hK.out _ _ ⟨hHeld.1.step b9, hHeld.2.1.step b9, hHeld.2.2.1.step b9, hHeld.2.2.2.step b9⟩ (fun hHeld9 => ?_)
  clear hK K
  have bw9 : Below W7.heap.size W7 W9 := b0.trans (b9.mono b0.size)
  have D9 := HD.out.step bw9
  refine wpAnyH_ready (rs := [7]) (by kernel_rfl) (by simp) ?_
  refine AllReadyH.cons (by exact rfl) (fun K hK => ?_) AllReadyH.nil
  have hl64 : (x.es.filter (fun e => decide (e.nm ≠ s.data.toList))).length < 64 := by
    obtain ⟨he, hnm⟩ := fd_mem hf
    have h1 : (x.es.filter (fun e => decide (e.nm ≠ s.data.toList))).length < x.es.length := List.length_filter_lt_length_iff_exists.2 ⟨f, he, by simp [hnm]⟩
    have := HH.out.fits.2.2
    omega
  refine stMd (by rfl) _ _ _ 71 rfl 9 76 keyedS Tryz.underlying71 m _ _ (by rfl) D9.mp (by unfold maxLen; show (x.es.filter _).length < _; omega) (.string u) (.pointer (some ⟨f.q, 0, none⟩)) (.string u.data.toList) (by rfl) (by rfl) (keyS (by omega)) ?_
  intro Wa Ma ta
  obtain ⟨ms, mc, hmb⟩ := map_blk D9.mp
  have hba := turned_but ta
  have Pa := hHeld9.1.but hba (fun er => by rw [← er, hHeld9.1.blk] at hmb; cases hmb)
  have Fa := hHeld9.2.1.but hba (fun er => by rw [← er, hHeld9.2.1.blk] at hmb; cases hmb)
  have Ga := hHeld9.2.2.1.but hba (fun er => by rw [← er, hHeld9.2.2.1.blk] at hmb; cases hmb)
  have Ha := hHeld9.2.2.2.but hba (fun er => by rw [← er, hHeld9.2.2.2.blk] at hmb; cases hmb)
  refine hK.out _ _ ⟨Pa, Fa, Ga, Ha⟩ (fun hHelda => ?_)
  clear hK K
  refine wpAnyH_done (by kernel_rfl) ?_ _
  refine NoPanic.normal ?_
  have bta : But (fun i => i = m) W7 Wa := (below_but bw9 _).trans hba (fun _ _ h => h)
  have hFil : Fil Wa B { f with nm := u.data.toList } := by
    have h1 := (HH.out.filM (HBT.out.trans bta (fun _ _ h => h))).1 f (fd_mem hf).1
    exact ⟨h1.blk, h1.row, h1.lo, h1.sy, h1.byte, hul⟩
  have hapf : ∀ a ∈ x.es.filter (fun e => decide (e.nm ≠ s.data.toList)), a.q ≠ f.q ∧ ∀ g, a.v.ownBlock = some g → f.v.ownBlock ≠ some g := fun a ha => by
    obtain ⟨h1, h2⟩ := List.mem_filter.1 ha
    have h2' : a.nm ≠ s.data.toList := by simpa using h2
    obtain ⟨l1, l2, hx, hnm, _⟩ := fd_split hf
    have ap := HH.out.ap
    rw [hx] at ap h1
    obtain ⟨a1, a2, a3⟩ := List.pairwise_append.1 ap
    obtain ⟨a4, a5⟩ := List.pairwise_cons.1 a2
    rcases List.mem_append.1 h1 with h1 | h1
    · have := a3 a h1 f (List.mem_cons_self ..)
      exact ⟨this.2.1, this.2.2⟩
    · rcases List.mem_cons.1 h1 with rfl | h1
      · exact absurd hnm h2'
      · have := a4 a h1
        exact ⟨this.2.1.symm, fun g hg e2 => this.2.2 g e2 hg⟩
  have htot : tot (x.es.filter (fun e => decide (e.nm ≠ s.data.toList))) + f.ss.length ≤ x.room := by
    obtain ⟨l1, l2, hx, hnm, _⟩ := fd_split hf
    have h1 := HH.out.fits.1
    rw [hx] at h1 ⊢
    rw [List.filter_append, List.filter_cons_of_neg (by simp [hnm]), tot_app]
    rw [tot_app] at h1
    simp only [tot] at h1
    have h2 := tot_filter (fun e => decide (e.nm ≠ s.data.toList)) l1
    have h3 := tot_filter (fun e => decide (e.nm ≠ s.data.toList)) l2
    omega
  have hDa : Dsk Wa B p m { x with es := es2 } := by
    rw [HE2.out]
    exact Dsk.putAs HD.out (e := { f with nm := u.data.toList }) hul bta Ma hFil hapf htot hl64
  have hka := but_kee HD.out bta
  have HF := (show Hid _ from And.intro hDa (And.intro (HK.out.1.trans hka.1) (HK.out.2.trans hka.2)))
  clear hka hDa Pa Fa Ga Ha hHeld hHeld9 hHelda Ma ta hba hmb D9 hFil hapf htot bta VD VF VB b0 bw9
  go_wp2_with fail
  go_end0
  exact ⟨⟨_, rfl⟩, HF.out⟩
end Go.Proofs.YtgabklihgjjjeaaGreatDoor
