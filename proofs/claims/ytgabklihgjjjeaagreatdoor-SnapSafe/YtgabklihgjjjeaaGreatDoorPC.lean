/- snap I: the steps of a Write. -/
import Derived.Test.YtgabklihgjjjeaaGreatDoorPB
import Derived.RangeFuncNested
import Derived.RangeFuncBound
import Derived.RangeFuncCalls
import Derived.RangeFuncLeaves
import Derived.Shelf.Abstract
import Derived.Shelf.RegionOpen
import Derived.OwnWalkIn
import Derived.TacticsInMore
import Derived.LoopNIn
import Derived.LoopIn
namespace Go.Proofs.YtgabklihgjjjeaaGreatDoor
open Go.RowKit Go.Maps Go.Sort Go.Shelf pk
set_option linter.unusedVariables false
set_option linter.unusedSimpArgs false
/-- the draft's name -/
def nmT : List UInt8 := [116]
/-- an elder draft is removed -/
def wr1 (x : AD) : Nat × AD := (if (oper x ⟨4, nmT, [], 0⟩).1 = 7 then 0 else (oper x ⟨4, nmT, [], 0⟩).1, (oper x ⟨4, nmT, [], 0⟩).2)
def wr2 (x : AD) (bs : List Nat) : Nat × AD := apnd x nmT (secS bs)
def wr3 (x : AD) : Nat × AD := oper x ⟨1, nmT, [], 0⟩
def wr4 (x : AD) (n : Nat) : Nat × AD := oper x ⟨3, nmT, nmS n, 0⟩
theorem secS_len (bs : List Nat) : (secS bs).length = 32 * cn4 (bs.length + 4) := by unfold secS cutB; rw [cutK_len, bodyS_len]
set_option maxRecDepth 100000 in
theorem s1_ok (w : World) (B p m : Nat) (x : AD) (h : DA w B p m x) (Bd : Nat) (hd : VA w Bd [ptr p] 37) (ho : x.ops ≤ 4611686018427387904) (hlf : x.left ≤ 9223372036854775807) :
    Calls Tryz.prog 43 #[ptr Bd] w fun r w' => r = .returned (.int .i64 ((wr1 x).1 : Nat)) ∧ Lv w w' B p m (wr1 x).2 := by
  have y := hd.cell 0 (v := ptr p) rfl
  have HR := (show Hid _ from remove_any w B p m x h ⟨#[116]⟩ (by decide) ho hlf)
  clear hd h
  unfold ptr at y ⊢
  obtain ⟨R, hR⟩ : ∃ R, R = oper x ⟨4, nmT, [], 0⟩ := ⟨_, rfl⟩
  have HW : Hid (wr1 x = (if R.1 = 7 then 0 else R.1, R.2)) := by show _ = _; rw [hR]; rfl
  have HRE : Hid (oper x ⟨4, (⟨#[116]⟩ : ByteArray).data.toList, [], 0⟩ = R) := hR.symm
  rw [HW.out]
  clear hR
  go_enter Tryz.func43, Tryz.ntmps43
  go_wp2_with fail
  refine Calls.mono HR.out ?_
  rintro e w1 ⟨rfl, L1⟩
  rw [HRE.out] at L1 ⊢
  have HL1 := (show Hid _ from L1)
  clear L1
  by_cases h7 : R.1 = 7
  · rw [h7]
    go_wp2_with fail
    go_ret
    exact ⟨by simp, HL1.out⟩
  · have d7 : ¬ ((R.1 : Int) = 7) := by omega
    go_wp2_with fail
    go_ret
    exact ⟨rfl, HL1.out⟩
set_option maxRecDepth 100000 in
theorem s3_ok (w : World) (B p m : Nat) (x : AD) (h : DA w B p m x) (Bd : Nat) (hd : VA w Bd [ptr p] 37) (ho : x.ops ≤ 4611686018427387904) (hlf : x.left ≤ 9223372036854775807) :
    Calls Tryz.prog 47 #[ptr Bd] w fun r w' => r = .returned (.int .i64 ((wr3 x).1 : Nat)) ∧ Lv w w' B p m (wr3 x).2 := by
  have y := hd.cell 0 (v := ptr p) rfl
  have HR := (show Hid _ from sync_any w B p m x h ⟨#[116]⟩ (by decide) ho hlf)
  clear hd h
  unfold ptr at y ⊢
  go_enter Tryz.func47, Tryz.ntmps47
  go_wp2_with fail
  refine Calls.mono HR.out ?_
  rintro e w1 ⟨rfl, L1⟩
  have HL1 := (show Hid _ from L1)
  clear L1
  go_wp2_with fail
  go_ret
  exact ⟨rfl, HL1.out⟩
set_option maxRecDepth 100000 in
theorem s4_ok (w : World) (B p m : Nat) (x : AD) (h : DA w B p m x) (Bd Bn n : Nat) (hn : n ≤ 999999999999) (hT : Pt10 w) (hd : VA w Bd [ptr p] 37) (hv : VA w Bn [.int .i64 (n : Int)] 2) (ho : x.ops ≤ 4611686018427387904) (hlf : x.left ≤ 9223372036854775807) :
    Calls Tryz.prog 49 #[ptr Bd, ptr Bn] w fun r w' => r = .returned (.int .i64 ((wr4 x n).1 : Nat)) ∧ Lv w w' B p m (wr4 x n).2 := by
  unfold ptr
  go_enter Tryz.func49, Tryz.ntmps49
  go_wp2_with fail
  refine wp_region_held_drew (S := fun w' => VA w' Bd [ptr p] 37 ∧ VA w' Bn [.int .i64 (n : Int)] 2) (by kernel_rfl) ⟨VA.drew hd, VA.drew hv⟩ (fun hHeld => ?_)
  have HD0 : Hid (DA w.drew B p m x) := h.step (Below.refl _ _).drew
  have HB0 : Hid (Below w.heap.size w w.drew) := (Below.refl _ _).drew
  have HV0 : Hid (VA w.drew Bd [ptr p] 37 ∧ VA w.drew Bn [.int .i64 (n : Int)] 2) := ⟨VA.drew hd, VA.drew hv⟩
  have HT0 : Hid (Pt10 w.drew) := hT.on (Below.refl _ _).drew
  have HLO : Hid (B ≤ w.heap.size) := h.lt
  clear hT
  clear hd hv h
  generalize w.drew = w0 at *
  refine takeD 0 3 (.pointer (some ⟨p, 0, none⟩)) (by exact rfl) rfl (by kernel_rfl) (by kernel_rfl) (by kernel_rfl) (fun _ _ _ h => h) (Or.inl ⟨by rfl, ?_⟩) (by assumption) ?_
  · intro wq hS
    have y := hS.1.cell 0 (v := ptr p) rfl
    unfold ptr at y
    go_simp
  try simp only [Act.put, List.setIfInBounds_toArray, List.set_cons_zero, List.set_cons_succ]
  refine takeD 1 4 (.int .i64 (n : Int)) (by exact rfl) rfl (by kernel_rfl) (by kernel_rfl) (by kernel_rfl) (fun _ _ _ h => h) (Or.inl ⟨by rfl, ?_⟩) (by assumption) ?_
  · intro wq hS
    have y := hS.2.cell 0 (v := .int .i64 (n : Int)) rfl
    go_simp
  try simp only [Act.put, List.setIfInBounds_toArray, List.set_cons_zero, List.set_cons_succ]
  refine wpAnyH_ready (rs := [2]) (by kernel_rfl) (by simp) ?_
  refine AllReadyH.cons (by exact rfl) (fun K hK => ?_) AllReadyH.nil
  go_simp
  refine (sname_ok n _ hn HT0.out).mono ?_
  rintro e w1 ⟨rfl, b1⟩
  have HD1 : Hid (DA w1 B p m x) := HD0.out.step b1
  have HV1 : Hid (VA w1 Bd [ptr p] 37 ∧ VA w1 Bn [.int .i64 (n : Int)] 2) := ⟨HV0.out.1.step b1, HV0.out.2.step b1⟩
  have HB1 : Hid (Below w.heap.size w w1) := HB0.out.trans (b1.mono HB0.out.size)
  clear b1 HD0 HV0 HB0
  go_wp2_with fail
  refine hK.out _ _ HV1.out (fun _ => ?_)
  clear hK K
  try simp only [Act.put, List.setIfInBounds_toArray, List.set_cons_zero, List.set_cons_succ]
  refine wpAnyH_ready (rs := [3]) (by kernel_rfl) (by simp) ?_
  refine AllReadyH.cons (by exact rfl) (fun K hK => ?_) AllReadyH.nil
  go_simp
  refine Calls.mono (rename_any w1 B p m x HD1.out ⟨#[116]⟩ (by decide) ⟨(nmS n).toArray⟩ (by show (nmS n).toArray.size ≤ _; simp [nmS_len]) ho hlf) ?_
  rintro e w2 ⟨rfl, L2⟩
  have HL2 : Hid (Lv w w2 B p m (wr4 x n).2) := ⟨L2.1, (Kee.bel HB1.out).trans L2.2.1, (HB1.out.mono HLO.out).trans L2.2.2⟩
  have HV2 : Hid (VA w2 Bd [ptr p] 37 ∧ VA w2 Bn [.int .i64 (n : Int)] 2) := ⟨HV1.out.1.kee L2.2.1 (by unfold Dt; decide), HV1.out.2.kee L2.2.1 (by unfold Dt; decide)⟩
  clear L2 HD1 HV1 HB1
  go_wp2_with fail
  refine hK.out _ _ HV2.out (fun _ => ?_)
  clear hK K
  try simp only [Act.put, List.setIfInBounds_toArray, List.set_cons_zero, List.set_cons_succ]
  refine wpAnyH_ready (rs := [4]) (by kernel_rfl) (by simp) ?_
  refine AllReadyH.cons (by exact rfl) (fun K hK => ?_) AllReadyH.nil
  go_simp
  refine hK.out _ _ HV2.out (fun _ => ?_)
  clear hK K
  try simp only [Act.put, List.setIfInBounds_toArray, List.set_cons_zero, List.set_cons_succ]
  refine wpAnyH_done (by kernel_rfl) ?_ _
  go_wp2_with fail
  go_ret
  exact ⟨rfl, HL2.out⟩
set_option maxRecDepth 100000 in
theorem s2_ok (w : World) (B p m : Nat) (x : AD) (h : DA w B p m x) (Bd Bn : Nat) (v : Value) (bs : List Nat) (hb : Bs w v bs) (h0 : 0 < bs.length) (hl : bs.length ≤ 400000) (hd : VA w Bd [ptr p] 37) (hv : VA w Bn [v] 22) (ho : x.ops ≤ 4611686018427387904) (hlf : x.left ≤ 9223372036854775807) :
    Calls Tryz.prog 44 #[ptr Bd, ptr Bn] w fun r w' => r = .returned (.int .i64 ((wr2 x bs).1 : Nat)) ∧ Lv w w' B p m (wr2 x bs).2 := by
  unfold ptr
  obtain ⟨sa, sn, sc, rfl⟩ : ∃ sa sn sc, v = .slice sa sn sc := by obtain ⟨_, a, c, e, _⟩ := hb; exact ⟨_, _, _, e⟩
  go_enter Tryz.func44, Tryz.ntmps44
  go_wp2_with fail
  refine wp_region_held_drew (S := fun w' => VA w' Bd [ptr p] 37 ∧ VA w' Bn [.slice sa sn sc] 22) (by kernel_rfl) ⟨VA.drew hd, VA.drew hv⟩ (fun hHeld => ?_)
  have HD0 : Hid (DA w.drew B p m x) := h.step (Below.refl _ _).drew
  have HB0 : Hid (Below w.heap.size w w.drew) := (Below.refl _ _).drew
  have HV0 : Hid (VA w.drew Bd [ptr p] 37 ∧ VA w.drew Bn [.slice sa sn sc] 22) := ⟨VA.drew hd, VA.drew hv⟩
  have HT0 : Hid (Bs w.drew (.slice sa sn sc) bs) := hb.step (Below.refl _ _).drew
  have HLO : Hid (B ≤ w.heap.size) := h.lt
  clear hb
  clear hd hv h
  generalize w.drew = w0 at *
  refine takeD 0 3 (.pointer (some ⟨p, 0, none⟩)) (by exact rfl) rfl (by kernel_rfl) (by kernel_rfl) (by kernel_rfl) (fun _ _ _ h => h) (Or.inl ⟨by rfl, ?_⟩) (by assumption) ?_
  · intro wq hS
    have y := hS.1.cell 0 (v := ptr p) rfl
    unfold ptr at y
    go_simp
  try simp only [Act.put, List.setIfInBounds_toArray, List.set_cons_zero, List.set_cons_succ]
  refine takeD 1 4 (.slice sa sn sc) (by exact rfl) rfl (by kernel_rfl) (by kernel_rfl) (by kernel_rfl) (fun _ _ _ h => h) (Or.inl ⟨by rfl, ?_⟩) (by assumption) ?_
  · intro wq hS
    have y := hS.2.cell 0 (v := .slice sa sn sc) rfl
    go_simp
  try simp only [Act.put, List.setIfInBounds_toArray, List.set_cons_zero, List.set_cons_succ]
  refine wpAnyH_ready (rs := [2]) (by kernel_rfl) (by simp) ?_
  refine AllReadyH.cons (by exact rfl) (fun K hK => ?_) AllReadyH.nil
  go_simp
  refine (sectors_ok _ bs _ HT0.out h0 hl).mono ?_
  rintro e w1 ⟨⟨u, rfl, o1⟩, b1⟩
  have HD1 : Hid (DA w1 B p m x) := HD0.out.step b1
  have HV1 : Hid (VA w1 Bd [ptr p] 37 ∧ VA w1 Bn [.slice sa sn sc] 22) := ⟨HV0.out.1.step b1, HV0.out.2.step b1⟩
  have HB1 : Hid (Below w.heap.size w w1) := HB0.out.trans (b1.mono HB0.out.size)
  have HO1 := (show Hid _ from o1)
  clear o1
  clear b1 HD0 HV0 HB0
  go_wp2_with fail
  refine hK.out _ _ HV1.out (fun _ => ?_)
  clear hK K
  try simp only [Act.put, List.setIfInBounds_toArray, List.set_cons_zero, List.set_cons_succ]
  refine wpAnyH_ready (rs := [3]) (by kernel_rfl) (by simp) ?_
  refine AllReadyH.cons (by exact rfl) (fun K hK => ?_) AllReadyH.nil
  go_simp
  refine Calls.mono (append_any w1 B p m x HD1.out ⟨#[116]⟩ (by decide) u (secS bs) HO1.out.bs HO1.out.safe (by rw [secS_len]; unfold cn4; omega) ho hlf) ?_
  rintro e w2 ⟨rfl, L2⟩
  have HL2 : Hid (Lv w w2 B p m (wr2 x bs).2) := ⟨L2.1, (Kee.bel HB1.out).trans L2.2.1, (HB1.out.mono HLO.out).trans L2.2.2⟩
  have HV2 : Hid (VA w2 Bd [ptr p] 37 ∧ VA w2 Bn [.slice sa sn sc] 22) := ⟨HV1.out.1.kee L2.2.1 (by unfold Dt; decide), HV1.out.2.kee L2.2.1 (by unfold Dt; decide)⟩
  clear L2 HD1 HV1 HB1
  go_wp2_with fail
  refine hK.out _ _ HV2.out (fun _ => ?_)
  clear hK K
  try simp only [Act.put, List.setIfInBounds_toArray, List.set_cons_zero, List.set_cons_succ]
  refine wpAnyH_ready (rs := [4]) (by kernel_rfl) (by simp) ?_
  refine AllReadyH.cons (by exact rfl) (fun K hK => ?_) AllReadyH.nil
  go_simp
  refine hK.out _ _ HV2.out (fun _ => ?_)
  clear hK K
  try simp only [Act.put, List.setIfInBounds_toArray, List.set_cons_zero, List.set_cons_succ]
  refine wpAnyH_done (by kernel_rfl) ?_ _
  go_wp2_with fail
  go_ret
  exact ⟨rfl, HL2.out⟩
end Go.Proofs.YtgabklihgjjjeaaGreatDoor
/- snap II: Write. -/
namespace Go.Proofs.YtgabklihgjjjeaaGreatDoor
open Go.RowKit Go.Maps Go.Sort Go.Shelf pk
set_option linter.unusedVariables false
set_option linter.unusedSimpArgs false
/-- the four steps -/
def four (q : Nat) : List Value := [.func (.func 43) #[] #[ptr q], .func (.func 44) #[] #[ptr q, ptr (q + 1 + 1)], .func (.func 47) #[] #[ptr q], .func (.func 49) #[] #[ptr q, ptr (q + 1)]]
structure Stp (w : World) (q p n : Nat) (v : Value) : Prop where
  d : VA w q [ptr p] 37
  n : VA w (q + 1) [.int .i64 (n : Int)] 2
  v : VA w (q + 1 + 1) [v] 22
  f : VA w (q + 1 + 1 + 1) (four q) 61
theorem Stp.kee {w w' : World} {q p n : Nat} {v : Value} (h : Stp w q p n v) (k : Kee w w') : Stp w' q p n v := ⟨h.d.kee k (by unfold Dt; decide), h.n.kee k (by unfold Dt; decide), h.v.kee k (by unfold Dt; decide), h.f.kee k (by unfold Dt; decide)⟩
set_option maxRecDepth 100000 in
theorem steps_ok (w : World) (p n : Nat) (sa : Option Addr) (sn sc : Nat) :
    Calls Tryz.prog 24 #[ptr p, .int .i64 (n : Int), .slice sa sn sc] w fun e w' => e = .returned (.slice (some ⟨w.heap.size + 1 + 1 + 1, 0, none⟩) 4 4) ∧ Stp w' w.heap.size p n (.slice sa sn sc) ∧ Below w.heap.size w w' := by
  unfold ptr
  go_enter Tryz.func24, Tryz.ntmps24
  go_wp2_with fail
  go_ret
  have e1 : (w.alloc (.cells #[ptr p] 37)).heap.size = w.heap.size + 1 := by simp
  have e2 : ((w.alloc (.cells #[ptr p] 37)).alloc (.cells #[.int .i64 (n : Int)] 2)).heap.size = w.heap.size + 1 + 1 := by simp
  have e3 : (((w.alloc (.cells #[ptr p] 37)).alloc (.cells #[.int .i64 (n : Int)] 2)).alloc (.cells #[.slice sa sn sc] 22)).heap.size = w.heap.size + 1 + 1 + 1 := by simp
  have V1 := (((va_new w [ptr p] 37).alloc (.cells #[.int .i64 (n : Int)] 2)).alloc (.cells #[.slice sa sn sc] 22)).alloc (.cells (four w.heap.size).toArray 61)
  have V2 := ((va_new (w.alloc (.cells #[ptr p] 37)) [.int .i64 (n : Int)] 2).alloc (.cells #[.slice sa sn sc] 22)).alloc (.cells (four w.heap.size).toArray 61)
  have V3 := (va_new ((w.alloc (.cells #[ptr p] 37)).alloc (.cells #[.int .i64 (n : Int)] 2)) [.slice sa sn sc] 22).alloc (.cells (four w.heap.size).toArray 61)
  have V4 := va_new (((w.alloc (.cells #[ptr p] 37)).alloc (.cells #[.int .i64 (n : Int)] 2)).alloc (.cells #[.slice sa sn sc] 22)) (four w.heap.size) 61
  have b1 := (Below.refl w.heap.size w).alloc (Nat.le_refl _) (.cells #[ptr p] 37)
  have b2 := b1.alloc b1.size (.cells #[.int .i64 (n : Int)] 2)
  have b3 := b2.alloc b2.size (.cells #[.slice sa sn sc] 22)
  have b4 := b3.alloc b3.size (.cells (four w.heap.size).toArray 61)
  rw [e1] at V2
  rw [e2] at V3
  rw [e3] at V4
  exact ⟨rfl, ⟨V1, V2, V3, V4⟩, b4⟩
/-- the table of powers of ten lies below the disk -/
def PtB (B : Nat) (w : World) : Prop := ∀ w', Below B w w' → Pt10 w'
theorem PtB.on {B : Nat} {w w' : World} (h : PtB B w) (k : Below B w w') : PtB B w' := fun w2 k2 => h w2 (k.trans k2)
theorem PtB.pt {B : Nat} {w : World} (h : PtB B w) : Pt10 w := h w (Below.refl _ _)
theorem ptB_of {w : World} (h : Pt10 w) : PtB w.heap.size w := fun w' k => h.on k
/-- a Write, in plain words -/
def wrS (x : AD) (n : Nat) (bs : List Nat) : Nat × AD :=
  if (wr1 x).1 ≠ 0 then wr1 x else
  if (wr2 (wr1 x).2 bs).1 ≠ 0 then wr2 (wr1 x).2 bs else
  if (wr3 (wr2 (wr1 x).2 bs).2).1 ≠ 0 then wr3 (wr2 (wr1 x).2 bs).2 else
  wr4 (wr3 (wr2 (wr1 x).2 bs).2).2 n
theorem oper_few (x : AD) (o : POp) : (oper x o).2.ops ≤ x.ops + 1 ∧ (oper x o).2.left ≤ x.left := by
  unfold oper begA
  repeat' split
  all_goals (simp; try omega)
theorem apnd_few (x : AD) (l : List UInt8) (bs : List Nat) : (apnd x l bs).2.ops ≤ x.ops + 1 ∧ (apnd x l bs).2.left ≤ x.left := by
  unfold apnd begA
  repeat' split
  all_goals (simp; try omega)
theorem Lv.trans {w w1 w2 : World} {B p m : Nat} {x y : AD} (h : Lv w w1 B p m x) (k : Lv w1 w2 B p m y) : Lv w w2 B p m y := ⟨k.1, h.2.1.trans k.2.1, h.2.2.trans k.2.2⟩
set_option maxRecDepth 100000 in
set_option maxHeartbeats 1000000 in
theorem write_ok (w : World) (B p m : Nat) (x : AD) (h : DA w B p m x) (n : Nat) (hn : n ≤ 999999999999) (hT : PtB B w) (v : Value) (bs : List Nat) (hb : Bs w v bs) (hsf : Safe w v) (h0 : 0 < bs.length) (hl : bs.length ≤ 400000) (ho : x.ops ≤ 4611686018427387000) (hlf : x.left ≤ 9223372036854775807) :
    Calls Tryz.prog 8 #[ptr p, .int .i64 (n : Int), v] w fun r w' => r = .returned (.int .i64 ((wrS x n bs).1 : Nat)) ∧ Lv w w' B p m (wrS x n bs).2 := by
  have HSF := (show Hid _ from hsf)
  have HB := (show Hid _ from hb)
  obtain ⟨sa, sn, sc, rfl, hsn⟩ : ∃ sa sn sc, v = .slice sa sn sc ∧ sn = bs.length := by obtain ⟨_, a, c, e, _⟩ := hb; exact ⟨_, _, _, e, rfl⟩
  have HSN : Hid (sn = bs.length) := hsn
  have HD : Hid (DA w B p m x) := h
  have HT : Hid (PtB B w) := hT
  rw [← hsn] at h0 hl
  clear hsn h hT hb hsf
  unfold ptr
  go_enter Tryz.func8, Tryz.ntmps8
  go_wp2_with fail
  refine (steps_ok w p n sa sn sc).mono ?_
  rintro e w1 ⟨rfl, st1, b1⟩
  have HD1 : Hid (DA w1 B p m x) := HD.out.step b1
  have HB1 : Hid (Bs w1 (.slice sa sn sc) bs) := HB.out.step b1
  have HT1 : Hid (PtB B w1) := HT.out.on (b1.mono HD.out.lt)
  have HL1 : Hid (Lv w w1 B p m x) := Lv.step HD.out b1
  have HS1 := (show Hid _ from st1)
  have HSF1 : Hid (Safe w1 (.slice sa sn sc)) := Safe.kee HSF.out (Kee.bel b1)
  clear b1 HT HB HD HSF
  have y0 := st1.f.cell 0 (v := .func (.func 43) #[] #[ptr w.heap.size]) rfl
  clear st1
  unfold ptr at y0
  generalize w.heap.size = q at *
  go_wp2_with fail
  refine wp_loop_rounds 5 ?_
  rw [rounds_succ]
  go_wp2_with fail
  have HW : Hid (∀ R1 R2 R3 R4, wr1 x = R1 → wr2 R1.2 bs = R2 → wr3 R2.2 = R3 → wr4 R3.2 n = R4 → wrS x n bs = if R1.1 ≠ 0 then R1 else if R2.1 ≠ 0 then R2 else if R3.1 ≠ 0 then R3 else R4) := (by rintro _ _ _ _ rfl rfl rfl rfl; rfl)
  obtain ⟨R1, hR1⟩ : ∃ R, wr1 x = R := ⟨_, rfl⟩
  obtain ⟨R2, hR2⟩ : ∃ R, wr2 R1.2 bs = R := ⟨_, rfl⟩
  obtain ⟨R3, hR3⟩ : ∃ R, wr3 R2.2 = R := ⟨_, rfl⟩
  obtain ⟨R4, hR4⟩ : ∃ R, wr4 R3.2 n = R := ⟨_, rfl⟩
  have HWR := (show Hid _ from HW.out R1 R2 R3 R4 hR1 hR2 hR3 hR4)
  have HR1 := (show Hid _ from hR1)
  have HR2 := (show Hid _ from hR2)
  have HR3 := (show Hid _ from hR3)
  have HR4 := (show Hid _ from hR4)
  have k1 := oper_few x ⟨4, nmT, [], 0⟩
  have k1' : R1.2.ops ≤ x.ops + 1 ∧ R1.2.left ≤ x.left := by rw [← hR1]; exact k1
  have k2 : R2.2.ops ≤ R1.2.ops + 1 ∧ R2.2.left ≤ R1.2.left := by rw [← hR2]; exact apnd_few _ _ _
  have k3 : R3.2.ops ≤ R2.2.ops + 1 ∧ R3.2.left ≤ R2.2.left := by rw [← hR3]; exact oper_few _ _
  clear hR1 hR2 hR3 hR4 HW k1
  have C1 := s1_ok w1 B p m x HD1.out q HS1.out.d (by omega) hlf
  rw [HR1.out] at C1
  refine Calls.mono C1 ?_
  rintro e w2 ⟨rfl, L2⟩
  have HL2 : Hid (Lv w w2 B p m R1.2) := HL1.out.trans L2
  have HS2 : Hid (Stp w2 q p n (.slice sa sn sc)) := HS1.out.kee L2.2.1
  have HB2 : Hid (Bs w2 (.slice sa sn sc) bs) := HB1.out.kee HSF1.out L2.2.1
  have HSF2 : Hid (Safe w2 (.slice sa sn sc)) := Safe.kee HSF1.out L2.2.1
  have HT2 : Hid (PtB B w2) := HT1.out.on L2.2.2
  clear C1 L2 HL1 HS1 HB1 HSF1 HT1 HD1 y0
  by_cases hz : R1.1 = 0
  rotate_left
  · have dz : ¬ ((R1.1 : Int) = 0) := by omega
    have HZ : Hid (R1.1 ≠ 0) := hz
    clear hz
    go_wp2_with fail
    go_ret
    rw [HWR.out]
    rw [if_pos HZ.out]
    exact ⟨rfl, HL2.out⟩
  have HZ1 : Hid (R1.1 = 0) := hz
  rw [hz]
  clear hz
  have y1 := HS2.out.f.cell 1 (v := .func (.func 44) #[] #[ptr q, ptr (q + 1 + 1)]) rfl
  unfold ptr at y1
  go_wp2_with fail
  rw [rounds_succ]
  go_wp2_with fail
  have C2 := s2_ok w2 B p m R1.2 HL2.out.1 q (q + 1 + 1) (.slice sa sn sc) bs HB2.out (by rw [← HSN.out]; exact h0) (by rw [← HSN.out]; exact hl) HS2.out.d HS2.out.v (by omega) (by omega)
  rw [HR2.out] at C2
  refine Calls.mono C2 ?_
  rintro e w3 ⟨rfl, L3⟩
  have HL3 : Hid (Lv w w3 B p m R2.2) := HL2.out.trans L3
  have HS3 : Hid (Stp w3 q p n (.slice sa sn sc)) := HS2.out.kee L3.2.1
  have HB3 : Hid (Bs w3 (.slice sa sn sc) bs) := HB2.out.kee HSF2.out L3.2.1
  have HSF3 : Hid (Safe w3 (.slice sa sn sc)) := Safe.kee HSF2.out L3.2.1
  have HT3 : Hid (PtB B w3) := HT2.out.on L3.2.2
  clear C2 L3 HL2 HS2 HB2 HSF2 HT2 y1
  by_cases hz : R2.1 = 0
  rotate_left
  · have dz : ¬ ((R2.1 : Int) = 0) := by omega
    have HZ : Hid (R2.1 ≠ 0) := hz
    clear hz
    go_wp2_with fail
    go_ret
    rw [HWR.out]
    rw [if_neg (fun h => h HZ1.out)]
    rw [if_pos HZ.out]
    exact ⟨rfl, HL3.out⟩
  have HZ2 : Hid (R2.1 = 0) := hz
  rw [hz]
  clear hz
  have y2 := HS3.out.f.cell 2 (v := .func (.func 47) #[] #[ptr q]) rfl
  unfold ptr at y2
  go_wp2_with fail
  rw [rounds_succ]
  go_wp2_with fail
  have C3 := s3_ok w3 B p m R2.2 HL3.out.1 q HS3.out.d (by omega) (by omega)
  rw [HR3.out] at C3
  refine Calls.mono C3 ?_
  rintro e w4 ⟨rfl, L4⟩
  have HL4 : Hid (Lv w w4 B p m R3.2) := HL3.out.trans L4
  have HS4 : Hid (Stp w4 q p n (.slice sa sn sc)) := HS3.out.kee L4.2.1
  have HB4 : Hid (Bs w4 (.slice sa sn sc) bs) := HB3.out.kee HSF3.out L4.2.1
  have HSF4 : Hid (Safe w4 (.slice sa sn sc)) := Safe.kee HSF3.out L4.2.1
  have HT4 : Hid (PtB B w4) := HT3.out.on L4.2.2
  clear C3 L4 HL3 HS3 HB3 HSF3 HT3 y2
  by_cases hz : R3.1 = 0
  rotate_left
  · have dz : ¬ ((R3.1 : Int) = 0) := by omega
    have HZ : Hid (R3.1 ≠ 0) := hz
    clear hz
    go_wp2_with fail
    go_ret
    rw [HWR.out]
    rw [if_neg (fun h => h HZ1.out)]
    rw [if_neg (fun h => h HZ2.out)]
    rw [if_pos HZ.out]
    exact ⟨rfl, HL4.out⟩
  have HZ3 : Hid (R3.1 = 0) := hz
  rw [hz]
  clear hz
  have y3 := HS4.out.f.cell 3 (v := .func (.func 49) #[] #[ptr q, ptr (q + 1)]) rfl
  unfold ptr at y3
  go_wp2_with fail
  rw [rounds_succ]
  go_wp2_with fail
  have C4 := s4_ok w4 B p m R3.2 HL4.out.1 q (q + 1) n hn HT4.out.pt HS4.out.d HS4.out.n (by omega) (by omega)
  rw [HR4.out] at C4
  refine Calls.mono C4 ?_
  rintro e w5 ⟨rfl, L5⟩
  have HL5 : Hid (Lv w w5 B p m R4.2) := HL4.out.trans L5
  have HS5 : Hid (Stp w5 q p n (.slice sa sn sc)) := HS4.out.kee L5.2.1
  have HB5 : Hid (Bs w5 (.slice sa sn sc) bs) := HB4.out.kee HSF4.out L5.2.1
  have HSF5 : Hid (Safe w5 (.slice sa sn sc)) := Safe.kee HSF4.out L5.2.1
  have HT5 : Hid (PtB B w5) := HT4.out.on L5.2.2
  clear C4 L5 HL4 HS4 HB4 HSF4 HT4 y3
  by_cases hz : R4.1 = 0
  rotate_left
  · have dz : ¬ ((R4.1 : Int) = 0) := by omega
    have HZ : Hid (R4.1 ≠ 0) := hz
    clear hz
    go_wp2_with fail
    go_ret
    rw [HWR.out]
    rw [if_neg (fun h => h HZ1.out)]
    rw [if_neg (fun h => h HZ2.out)]
    rw [if_neg (fun h => h HZ3.out)]
    skip
    exact ⟨rfl, HL5.out⟩
  have HZ4 : Hid (R4.1 = 0) := hz
  rw [hz]
  clear hz
  go_wp2_with fail
  rw [rounds_succ]
  go_wp2_with fail
  go_ret
  rw [HWR.out, if_neg (fun h => h HZ1.out), if_neg (fun h => h HZ2.out), if_neg (fun h => h HZ3.out), HZ4.out]
  exact ⟨rfl, HL5.out⟩
end Go.Proofs.YtgabklihgjjjeaaGreatDoor
/- snap III: List. -/
namespace Go.Proofs.YtgabklihgjjjeaaGreatDoor
open Go.RowKit Go.Maps Go.Sort Go.Shelf pk
set_option linter.unusedVariables false
set_option linter.unusedSimpArgs false
theorem lt_app : ∀ (a b s t : List UInt8), a.length = b.length → a < b → a ++ s < b ++ t
  | [], [], s, t, _, h => absurd h (List.lt_irrefl _)
  | [], y :: b, s, t, h, _ => by simp at h
  | x :: a, [], s, t, h, _ => by simp at h
  | x :: a, y :: b, s, t, h, hl => by
    rw [List.cons_append, List.cons_append, List.cons_lt_cons_iff]
    rcases List.cons_lt_cons_iff.1 hl with h1 | ⟨h1, h2⟩
    · exact Or.inl h1
    · exact Or.inr ⟨h1, lt_app a b s t (by simpa using h) h2⟩
theorem lt_app2 : ∀ (a s t : List UInt8), s < t → a ++ s < a ++ t
  | [], s, t, h => h
  | x :: a, s, t, h => by rw [List.cons_append, List.cons_append, List.cons_lt_cons_iff]; exact Or.inr ⟨rfl, lt_app2 a s t h⟩
theorem dgL_lt : ∀ k a b, a < 10 ^ k → b < 10 ^ k → a < b → dgL k a < dgL k b
  | 0, a, b, h1, h2, h => by simp at h1 h2; omega
  | k + 1, a, b, h1, h2, h => by
    unfold dgL
    rw [Nat.pow_succ] at h1 h2
    rcases Nat.lt_or_ge (a / 10) (b / 10) with h3 | h3
    · exact lt_app _ _ _ _ (by rw [dgL_len, dgL_len]) (dgL_lt k _ _ (by omega) (by omega) h3)
    · rw [show a / 10 = b / 10 by omega]
      refine lt_app2 _ _ _ (List.cons_lt_cons_iff.2 (Or.inl ?_))
      rw [UInt8.lt_iff_toNat_lt]
      show (48 + a % 10) % 256 < (48 + b % 10) % 256
      omega
theorem nmS_lt {a b : Nat} (ha : a ≤ 999999999999) (hb : b ≤ 999999999999) (h : a < b) : nmS a < nmS b := by
  unfold nmS
  exact List.cons_lt_cons_iff.2 (Or.inr ⟨rfl, dgL_lt 12 a b (by omega) (by omega) h⟩)
theorem nmS_le {a b : Nat} (ha : a ≤ 999999999999) (hb : b ≤ 999999999999) (h : nmS a ≤ nmS b) : a ≤ b := by
  rcases Nat.lt_or_ge b a with h1 | h1
  · exact absurd (nmS_lt hb ha h1) h
  · exact h1
theorem nmS_inj {a b : Nat} (ha : a ≤ 999999999999) (hb : b ≤ 999999999999) (h : nmS a = nmS b) : a = b :=
  Nat.le_antisymm (nmS_le ha hb (by rw [h]; exact List.le_refl _)) (nmS_le hb ha (by rw [h]; exact List.le_refl _))
theorem nmS_ne (a : Nat) : nmS a ≠ nmT := fun h => by have := congrArg List.length h; rw [nmS_len] at this; simp [nmT] at this
/-- the files are snapshots, and the draft -/
def Snp (fs : FS) : Prop := ∀ l ∈ nms fs, l = nmT ∨ ∃ n, n ≤ 999999999999 ∧ l = nmS n
theorem snp_xs (ns : List (List UInt8)) : (∀ l ∈ ns, l = nmT ∨ ∃ n, n ≤ 999999999999 ∧ l = nmS n) → ∃ xs : List (Option Nat), ns = xs.map nmO ∧ ∀ n, some n ∈ xs → n ≤ 999999999999 := by
  induction ns with
  | nil => intro _; exact ⟨[], rfl, fun n h => by cases h⟩
  | cons l ns ih =>
    intro h
    obtain ⟨xs, h1, h2⟩ := ih (fun l hl => h l (List.mem_cons_of_mem _ hl))
    rcases h l (List.mem_cons_self ..) with rfl | ⟨n, hn, rfl⟩
    · exact ⟨none :: xs, by rw [h1]; rfl, fun n hh => h2 n (by simpa using hh)⟩
    · exact ⟨some n :: xs, by rw [h1]; rfl, fun k hh => by
        rcases List.mem_cons.1 hh with e | e
        · cases e; exact hn
        · exact h2 k e⟩
/-- the numbers, as they stand -/
structure Nums (fs : FS) (ks : List Nat) : Prop where
  srt : ks.Pairwise (· < ·)
  mem : ∀ n, n ∈ ks ↔ n ≤ 999999999999 ∧ nmS n ∈ nms fs
  len : ks.length ≤ fs.length
theorem nums_of {fs : FS} {ns : List (List UInt8)} {xs : List (Option Nat)} (hp : ns.Perm (nms fs)) (ho : ns.Pairwise (fun a b => a ≤ b)) (hnd : (nms fs).Nodup) (he : ns = xs.map nmO) (hx : ∀ n, some n ∈ xs → n ≤ 999999999999) : Nums fs (xs.filterMap id) := by
  refine ⟨?_, fun n => ?_, ?_⟩
  rotate_left 2
  · refine Nat.le_trans (List.length_filterMap_le _ _) ?_
    have e1 := hp.length_eq
    rw [he, List.length_map] at e1
    rw [e1]
    unfold nms
    rw [List.length_map]
    exact Nat.le_refl _
  · have hnd2 : ns.Nodup := hp.nodup_iff.2 hnd
    have h3 : ns.Pairwise (fun a b => a ≤ b ∧ a ≠ b) := ho.and hnd2
    rw [he, List.pairwise_map] at h3
    rw [List.pairwise_filterMap]
    refine List.Pairwise.imp_of_mem (fun {a b} ha hb hab c hc d hd => ?_) h3
    have e1 : a = some c := hc
    have e2 : b = some d := hd
    subst e1 e2
    have := nmS_le (hx c ha) (hx d hb) hab.1
    have hne : c ≠ d := fun e => hab.2 (by rw [e])
    omega
  · rw [List.mem_filterMap]
    constructor
    · rintro ⟨a, ha, e⟩
      have e1 : a = some n := e
      subst e1
      exact ⟨hx n ha, hp.mem_iff.1 (by rw [he]; exact List.mem_map.2 ⟨some n, ha, rfl⟩)⟩
    · rintro ⟨hn, hm⟩
      have := hp.mem_iff.2 hm
      rw [he] at this
      obtain ⟨a, ha, e⟩ := List.mem_map.1 this
      refine ⟨a, ha, ?_⟩
      cases a with
      | none => exact absurd e.symm (nmS_ne n)
      | some k => rw [nmS_inj (hx k ha) hn e]; rfl
set_option maxRecDepth 100000 in
theorem list_ok (w : World) (B p m : Nat) (x : AD) (h : DA w B p m x) (hon : x.on = true) (hs : Snp x.fs) (hl : x.fs.length ≤ 100) :
    Calls Tryz.prog 12 #[ptr p] w fun e w' => ∃ v ks, e = .returned v ∧ Own KI w' w.heap.size v ks ∧ Nums x.fs ks ∧ Below w.heap.size w w' := by
  have HN := (show Hid _ from names_any w B p m x h)
  have hnd : (nms x.fs).Nodup := h.nodup
  unfold ptr
  go_enter Tryz.func12, Tryz.ntmps12
  go_wp2_with fail
  refine Calls.mono HN.out ?_
  rintro e w1 ⟨v, ns, rfl, h1, _, h3, h4, _, b1⟩
  have hp := h1 hon
  obtain ⟨xs, he, hx⟩ := snp_xs ns (fun l hl => hs l (hp.mem_iff.1 hl))
  have HB1 := (show Hid _ from b1)
  have HSN : Hid (Sn w1 v (xs.map nmO)) := by rw [← he]; exact OwnN.sn h4
  have hxl : xs.length ≤ 100 := by
    have e1 := hp.length_eq
    rw [he] at e1
    simp at e1
    omega
  have HNU : Hid (Nums x.fs (xs.filterMap id)) := nums_of hp h3 hnd he hx
  have HX := (show Hid _ from hx)
  clear h1 h3 h4 b1 hp he hx HN h
  go_wp2_with fail
  refine (numbers_ok w1 v xs HSN.out HX.out hxl).mono ?_
  rintro e w2 ⟨⟨u, rfl, o2⟩, b2⟩
  have HO2 : Hid (Own KI w2 w.heap.size u (xs.filterMap id)) := o2.lower HB1.out.size
  have HB2 : Hid (Below w.heap.size w w2) := HB1.out.trans (b2.mono HB1.out.size)
  clear o2 b2
  go_wp2_with fail
  go_ret
  exact ⟨_, _, rfl, HO2.out, HNU.out, HB2.out⟩
end Go.Proofs.YtgabklihgjjjeaaGreatDoor
/- snap IV: slices.Backward over numbers. -/
namespace Go.Proofs.YtgabklihgjjjeaaGreatDoor
open Go.RowKit Go.Shelf pk
set_option linter.unusedVariables false
set_option linter.unusedSimpArgs false
attribute [local go_sem] Oper.semAt_some

/-- what has come when k rounds are over -/
def upto {α : Type} (f : Nat → α) (k : Nat) : List α := (List.range k).map f
theorem upto_succ {α : Type} (f : Nat → α) (k : Nat) : upto f (k + 1) = upto f k ++ [f k] := by simp [upto, List.range_succ]
theorem upto_length {α : Type} (f : Nat → α) (k : Nat) : (upto f k).length = k := by simp [upto]
/-- the j-th from the back -/
def bk (ks : List Nat) (d0 : Nat) (j : Nat) : Int × Nat := ((ks.length : Int) - 1 - j, ks.getD (ks.length - 1 - j) d0)
/-- what comes: a place, and a number that is one -/
abbrev KE (P : Nat → Prop) := { x : Int × Nat // P x.2 }
def encK {P : Nat → Prop} (x : KE P) : Array Value := #[.int .i64 x.1.1, .int .i64 (x.1.2 : Int)]
def bkS {P : Nat → Prop} (ks : List Nat) (d0 : Nat) (h : ∀ j, P (ks.getD j d0)) (j : Nat) : KE P := ⟨bk ks d0 j, h _⟩
set_option maxRecDepth 100000 in
set_option maxHeartbeats 2000000 in
theorem back1_in (F : Fence) (n : Nat) (h8 : F.fn 36) (hro : F.round = none) (hn : 1 ≤ n) (l Bs n₀ cap len : Nat) (sa : Option Addr) {P : Nat → Prop} (ks : List Nat) (d0 : Nat) (hwf : ∀ j, P (ks.getD j d0)) (hlen : len = ks.length) (hl : len ≤ 64) (J Jx : List (KE P) → World → Prop)
    (hY : ∀ pre x W, J pre W → pre.length < len → YieldAt F (n - 1) Tryz.prog l (encK x) W fun e W' =>
      (e = .returned (.bool true) ∧ J (pre ++ [x]) W' ∧ Below n₀ W W') ∨ (e = .returned (.bool false) ∧ Jx (pre ++ [x]) W'))
    (W : World) (hBs : W.cell? ⟨Bs, 0, none⟩ = some (.slice sa len cap)) (hBl : Bs < n₀) (hcap : len ≤ cap ∧ cap ≤ 9223372036854775807) (hc : 0 < len → ∃ b off, sa = some ⟨b, off, none⟩ ∧ b < n₀ ∧ ∀ j, j < len → W.cell? ⟨b, off + j, none⟩ = some (.int .i64 ((ks.getD j d0 : Nat) : Int))) (h0 : J [] W) :
    CallsIn F n Tryz.prog 36 #[.func (.yield l) #[] #[], .pointer (some ⟨Bs, 0, none⟩)] W fun e W' => (∃ v, e = .returned v) ∧
      ((∃ ys, ys = upto (bkS ks d0 hwf) len ∧ J ys W') ∨ (∃ pre, (∃ k, k ≤ len ∧ pre = upto (bkS ks d0 hwf) k) ∧ Jx pre W')) := by
  have HC := (show Hid _ from hc)
  have HLEN := (show Hid _ from hlen)
  clear hc hlen
  refine callsIn_of_wp Tryz.func36 rfl h8 ?_ hro
  simp only [Tryz.ntmps36, List.size_toArray, List.length_cons, List.length_nil, Nat.reduceAdd, Nat.reduceSub, Array.replicate_succ, Array.replicate_zero, List.push_toArray, List.append_toArray, List.nil_append, List.cons_append]
  gi_wp2
  gi_loopw [3] (fun i wr => ∃ k : Nat, k ≤ len ∧ i = .int .i64 ((len : Int) - 1 - k) ∧ Hid (J (upto (bkS ks d0 hwf) k) wr) ∧ Hid (Below n₀ W wr))
    (fun i _ => (intOf i + 1).toNat)
  case atStart => exact ⟨0, Nat.zero_le _, by simp, h0, Below.refl _ _⟩
  case round =>
    obtain ⟨k, hk, rfl, hJs, hnx⟩ := hrel
    by_cases hlt : k < len
    · obtain ⟨m, hm⟩ : ∃ m, len = m + 1 + k := ⟨len - 1 - k, by omega⟩
      have em : (len : Int) - 1 - k = (m : Int) := by omega
      rw [em]
      have eb : (bkS ks d0 hwf k).1 = ((m : Int), ks.getD m d0) := by
        show bk ks d0 k = _
        unfold bk
        rw [← HLEN.out, em, show len - 1 - k = m by omega]
      obtain ⟨fn, tmps, assign, body, hy, hR⟩ := hY _ (bkS ks d0 hwf k) wr hJs.out (by rw [upto_length]; exact hlt)
      have HR := (show Hid _ from hR)
      have HE := (show Hid _ from eb)
      have HEM := (show Hid _ from em)
      have HM := (show Hid _ from hm)
      unfold encK at hy
      rw [eb] at hy
      obtain ⟨b, off, rfl, hb, hcs⟩ := HC.out (by omega)
      have z1 := (hnx.out.cell (p := ⟨b, off + m, none⟩) hb).trans (hcs m (by omega))
      have y1 := (hnx.out.cell (p := ⟨Bs, 0, none⟩) hBl).trans hBs
      have d1 : (0 : Int) ≤ (m : Int) := by omega
      have d2 : (m : Int) < (len : Int) := by omega
      clear hR eb em hm hcs
      generalize ks.getD m d0 = key at *
      dsimp only at hy
      gi_wp2
      refine RoundIn.mono HR.out ?_
      rintro e W3 (⟨rfl, hJ3, hk3⟩ | ⟨rfl, hJx3⟩)
      · have HJ3 := (show Hid _ from hJ3)
        have HK3 := (show Hid _ from hk3)
        clear hJ3 hk3
        gi_wp2
        go_roundw
        case rel => exact ⟨k + 1, by omega, by have := HEM.out; have e : (m : Int) - 1 = (len : Int) - 1 - ((k + 1 : Nat) : Int) := by omega
                                               rw [← e], by show J _ _; rw [upto_succ]; exact HJ3.out, hnx.out.trans HK3.out⟩
        case measure => simp [intOf]
      · have HJ3 := (show Hid _ from hJx3)
        clear hJx3
        gi_wp2
        refine bodyPost_ret (results_none rfl _ _ _) rfl ?_
        exact ⟨⟨_, rfl⟩, .inr ⟨_, ⟨k + 1, by omega, (upto_succ _ _).symm⟩, HJ3.out⟩⟩
    · obtain rfl : k = len := by omega
      rw [show (k : Int) - 1 - k = -1 by omega]
      gi_wp2
      go_end0
      exact ⟨⟨_, rfl⟩, .inl ⟨_, rfl, hJs.out⟩⟩
theorem back_in (F : Fence) (n : Nat) (h5 : F.fn 20) (hro : F.round = none) (a : Option Addr) (len cap : Nat) (w : World) :
    CallsIn F n Tryz.prog 20 #[.slice a len cap] w fun e w' => e = .returned (.func (.func 36) #[] #[.pointer (some ⟨w.heap.size, 0, none⟩)]) ∧ w' = w.alloc (.cells #[.slice a len cap] 31) := by
  refine callsIn_of_wp Tryz.func20 rfl h5 ?_ hro
  simp only [Tryz.ntmps20, List.size_toArray, List.length_cons, List.length_nil, Nat.reduceAdd, Nat.reduceSub, Array.replicate_succ, Array.replicate_zero, List.push_toArray, List.append_toArray, List.nil_append, List.cons_append]
  gi_wp2
  go_ret
  exact ⟨rfl, rfl⟩
theorem back_stops (F : Fence) (n : Nat) (h7 : F.fn 36) (hro : F.round = none) (hn : 1 ≤ n) (Bs n₀ cap len : Nat) (sa : Option Addr) {P : Nat → Prop} (ks : List Nat) (d0 : Nat) (hwf : ∀ j, P (ks.getD j d0)) (hlen : len = ks.length) (hl : len ≤ 64) (w : World) (hBs : Bs < n₀) (hn₀ : n₀ ≤ w.heap.size)
    (hc : w.cell? ⟨Bs, 0, none⟩ = some (.slice sa len cap)) (hcap : len ≤ cap ∧ cap ≤ 9223372036854775807) (hI : 0 < len → ∃ b off, sa = some ⟨b, off, none⟩ ∧ b < n₀ ∧ ∀ j, j < len → w.cell? ⟨b, off + j, none⟩ = some (.int .i64 ((ks.getD j d0 : Nat) : Int))) :
    SeqStopsK F n Tryz.prog 36 #[.pointer (some ⟨Bs, 0, none⟩)] encK (Below n₀) (fun ys => ys = upto (bkS ks d0 hwf) len) (fun pre => ∃ k, k ≤ len ∧ pre = upto (bkS ks d0 hwf) k) len w := fun l J Jx W hW _ _ hY h0 => by
  have hc' := (hW.cell (p := ⟨Bs, 0, none⟩) (by show Bs < _; omega)).trans hc
  refine back1_in F n h7 hro hn l Bs n₀ cap len sa ks d0 hwf hlen hl J Jx hY W hc' hBs hcap (fun h => ?_) h0
  obtain ⟨b, off, e, hb, hx⟩ := hI h
  exact ⟨b, off, e, hb, fun j hj => (hW.cell (p := ⟨b, off + j, none⟩) (by show b < _; omega)).trans (hx j hj)⟩
end Go.Proofs.YtgabklihgjjjeaaGreatDoor
/- snap V: Load. -/
namespace Go.Proofs.YtgabklihgjjjeaaGreatDoor
open Go.RowKit Go.Maps Go.Sort Go.Shelf pk
set_option linter.unusedVariables false
set_option linter.unusedSimpArgs false
attribute [local go_sem] Oper.semAt_some
/-- the file of that name is a whole snapshot's -/
def Whl (fs : FS) (n : Nat) (bs : List Nat) : Prop := (∃ t, lk fs (nmS n) = some t ∧ flat t.2.1 = secS bs) ∧ By bs ∧ 0 < bs.length ∧ bs.length ≤ 400000
/-- the cells of Load -/
structure LC (w W : World) (q p : Nat) (x1 u x3 : Value) : Prop where
  a : VA W q [.pointer (some ⟨p, 0, none⟩)] 37
  b : VA W (q + 1) [x1] 2
  c : VA W (q + 1 + 1) [u] 22
  d : VA W (q + 1 + 1 + 1) [x3] 23
theorem dgL_okc : ∀ k v, (dgL k v).all okc = true
  | 0, _ => rfl
  | k + 1, v => by
    unfold dgL
    rw [List.all_append, dgL_okc k]
    have : okc (UInt8.ofNat (48 + v % 10)) = true := by
      rw [okc_iff]
      have e : (UInt8.ofNat (48 + v % 10)).toNat = 48 + v % 10 := by
        show (48 + v % 10) % 256 = _
        omega
      rw [e]
      omega
    rw [List.all_cons, this]
    rfl
theorem nmS_is (n : Nat) : isNm (nmS n) = true := by
  unfold isNm
  rw [nmS_len]
  unfold nmS
  rw [List.all_cons, dgL_okc]
  decide
theorem keeps_below {w w' : World} (h : Below w.heap.size w w') : KeepsOthers w w' := ⟨h.size, fun k o h0 _ => (h.block k (Array.getElem?_eq_some_iff.1 h0).1).trans h0⟩
theorem keeps_upd {w w' : World} {p : Nat} {cs : List Value} {T : TypeId} (h : VA w p cs T) (k : Upd p w w') : KeepsOthers w w' := ⟨by rw [k.size]; exact Nat.le_refl _, fun j o h0 ho => by
  refine (k.block j ?_).trans h0
  rintro rfl
  rw [h.blk] at h0
  cases h0
  simp [Obj.isCells] at ho⟩
theorem bs_not {w : World} {v : Value} {bs : List Nat} (hb : Bs w v bs) (h0 : 0 < bs.length) {g : Nat} {x : Value} {T : TypeId} (V : VA w g [x] T) (hx : ∀ k, x ≠ .int .u8 k) : ∀ b off n c, v = .slice (some ⟨b, off, none⟩) n c → b ≠ g := fun b off n c e eb => by
  subst eb
  obtain ⟨hby, a, c', e', h1, h2, h3, h4⟩ := hb
  obtain ⟨b', off', ea, hlt, hcell⟩ := h4 h0
  rw [e] at e'
  injection e' with e1 e2 e3
  rw [ea] at e1
  cases e1
  have hc := hcell 0 h0
  rw [cell_of_row w _ _ _ _ _ V.blk] at hc
  cases off with
  | zero => exact hx _ (by simpa using hc)
  | succ k => simp at hc
theorem bs_upd {w w' : World} {v : Value} {bs : List Nat} {g : Nat} (hb : Bs w v bs) (U : Upd g w w') (hne : ∀ b off n c, v = .slice (some ⟨b, off, none⟩) n c → b ≠ g) : Bs w' v bs := by
  obtain ⟨hby, a, c, rfl, h1, h2, h3, h4⟩ := hb
  refine ⟨hby, a, c, rfl, h1, h2, h3, fun h0 => ?_⟩
  obtain ⟨b, off, ea, hlt, hx⟩ := h4 h0
  refine ⟨b, off, ea, by rw [U.size]; exact hlt, fun k hk => ?_⟩
  exact (World.cell?_of_block (a := ⟨b, off + k, none⟩) (U.block b (hne b off _ _ (by rw [ea])))).trans (hx k hk)
theorem safe_upd {w w' : World} {v : Value} {g : Nat} (hs : Safe w v) (U : Upd g w w') (hne : ∀ b off n c, v = .slice (some ⟨b, off, none⟩) n c → b ≠ g) : Safe w' v := fun b off n c e => by
  obtain ⟨cs, T, z, h1, h2⟩ := hs b off n c e
  exact ⟨cs, T, z, (U.block b (hne b off n c e)).trans h1, h2⟩
theorem srt_last {ks : List Nat} (h : ks.Pairwise (· < ·)) {n : Nat} (hn : n ∈ ks) (d : Nat) : n ≤ ks.getD (ks.length - 1) d := by
  obtain ⟨i, hi, rfl⟩ := List.mem_iff_getElem.1 hn
  rw [List.getD, List.getElem?_eq_getElem (show ks.length - 1 < ks.length by omega)]
  show ks[i] ≤ ks[ks.length - 1]
  rcases Nat.lt_or_ge i (ks.length - 1) with h1 | h1
  · exact Nat.le_of_lt (List.pairwise_iff_getElem.1 h i (ks.length - 1) hi (by omega) h1)
  · have : i = ks.length - 1 := by omega
    subst this
    exact Nat.le_refl _
theorem LC.kee {w W W' : World} {q p : Nat} {a b c : Value} (h : LC w W q p a b c) (k : Kee W W') : LC w W' q p a b c := ⟨h.a.kee k (by unfold Dt; decide), h.b.kee k (by unfold Dt; decide), h.c.kee k (by unfold Dt; decide), h.d.kee k (by unfold Dt; decide)⟩
theorem kee_grown {X Y : World} {row : Option Nat} (hg : X.grownBy Y row) (hr : ∀ r, row = some r → ∃ o : Obj, X.heap[r]? = some o ∧ o.isCells = false) : Kee X Y := by
  cases row with
  | none => exact Kee.bel ⟨hg.os, hg.tape, hg.output, hg.size, fun i hi => hg.block i hi (by simp)⟩
  | some r => obtain ⟨o, ho, hc⟩ := hr r rfl; exact Kee.row hg ho (Or.inl hc)
set_option maxRecDepth 100000 in
set_option maxHeartbeats 1000000 in
theorem load_ok (w : World) (B p m : Nat) (x : AD) (h : DA w B p m x) (hon : x.on = true) (hs : Snp x.fs) (hl : x.fs.length ≤ 64) (hT : PtB B w) (F : Nat → List Nat) (hW : ∀ n, n ≤ 999999999999 → nmS n ∈ nms x.fs → Whl x.fs n (F n)) :
    Calls Tryz.prog 6 #[ptr p] w fun e w' => ((∃ k u, e = .returned (.tuple #[.int .i64 ((k : Nat) : Int), u, .int .i64 0]) ∧ (k ≤ 999999999999 ∧ nmS k ∈ nms x.fs ∧ ∀ n, n ≤ 999999999999 → nmS n ∈ nms x.fs → n ≤ k) ∧ Bs w' u (F k) ∧ Safe w' u) ∨ (e = .returned (.tuple #[.int .i64 0, .slice none 0 0, .int .i64 7]) ∧ ∀ n, n ≤ 999999999999 → nmS n ∉ nms x.fs)) ∧ Below w.heap.size w w' := by
  have HON := (show Hid _ from fun w' (k : Below w.heap.size w w') => on_any w' B p m x (h.step k))
  have HLS := (show Hid _ from fun w' (k : Below w.heap.size w w') => list_ok w' B p m x (h.step k) hon hs (by omega))
  have HD : Hid (DA w B p m x) := h
  have HT : Hid (PtB B w) := hT
  have HW := (show Hid _ from hW)
  have HLO : Hid (B ≤ w.heap.size) := h.lt
  clear h hT hW
  have b1 := (Below.refl w.heap.size w).alloc (Nat.le_refl _) (.cells #[.pointer (some ⟨p, 0, none⟩)] 37)
  have b2 := b1.alloc b1.size (.cells #[.int .i64 0] 2)
  have b3 := b2.alloc b2.size (.cells #[.slice none 0 0] 22)
  have b4 := b3.alloc b3.size (.cells #[.int .i64 0] 23)
  have v0 := (((va_new w [.pointer (some ⟨p, 0, none⟩)] 37).alloc (.cells #[.int .i64 0] 2)).alloc (.cells #[.slice none 0 0] 22)).alloc (.cells #[.int .i64 0] 23)
  have v1 := ((va_new (w.alloc (.cells #[.pointer (some ⟨p, 0, none⟩)] 37)) [.int .i64 0] 2).alloc (.cells #[.slice none 0 0] 22)).alloc (.cells #[.int .i64 0] 23)
  have v2 := (va_new ((w.alloc (.cells #[.pointer (some ⟨p, 0, none⟩)] 37)).alloc (.cells #[.int .i64 0] 2)) [.slice none 0 0] 22).alloc (.cells #[.int .i64 0] 23)
  have v3 := va_new (((w.alloc (.cells #[.pointer (some ⟨p, 0, none⟩)] 37)).alloc (.cells #[.int .i64 0] 2)).alloc (.cells #[.slice none 0 0] 22)) [.int .i64 0] 23
  simp only [World.size_alloc] at v0 v1 v2 v3
  have HLC : Hid (LC w ((((w.alloc (.cells #[.pointer (some ⟨p, 0, none⟩)] 37)).alloc (.cells #[.int .i64 0] 2)).alloc (.cells #[.slice none 0 0] 22)).alloc (.cells #[.int .i64 0] 23)) w.heap.size p (.int .i64 0) (.slice none 0 0) (.int .i64 0)) := ⟨v0, v1, v2, v3⟩
  have HB4 : Hid (Below w.heap.size w ((((w.alloc (.cells #[.pointer (some ⟨p, 0, none⟩)] 37)).alloc (.cells #[.int .i64 0] 2)).alloc (.cells #[.slice none 0 0] 22)).alloc (.cells #[.int .i64 0] 23))) := b4
  clear v0 v1 v2 v3 b1 b2 b3 b4
  unfold ptr
  refine (callsIn_wide (n := 8)).1 ?_
  refine callsIn_of_wp_marks Tryz.func6 rfl trivial ?_ rfl
  simp only [Tryz.ntmps6, List.size_toArray, List.length_cons, List.length_nil, Nat.reduceAdd, Nat.reduceSub, Array.replicate_succ, Array.replicate_zero, List.push_toArray, List.append_toArray, List.nil_append, List.cons_append]
  gi_wp2
  have C1 : CallsIn Fence.wide 7 Tryz.prog 19 #[.pointer (some ⟨p, 0, none⟩)] ((((w.alloc (.cells #[.pointer (some ⟨p, 0, none⟩)] 37)).alloc (.cells #[.int .i64 0] 2)).alloc (.cells #[.slice none 0 0] 22)).alloc (.cells #[.int .i64 0] 23)) fun e w' => e = .returned (.bool true) ∧ w' = ((((w.alloc (.cells #[.pointer (some ⟨p, 0, none⟩)] 37)).alloc (.cells #[.int .i64 0] 2)).alloc (.cells #[.slice none 0 0] 22)).alloc (.cells #[.int .i64 0] 23)) := (callsIn_wide (n := 7)).2 (by have := HON.out _ HB4.out; rw [hon] at this; exact this)
  refine ⟨trivial, C1.mono ?_⟩
  rintro e w' ⟨rfl, rfl⟩
  clear C1
  obtain ⟨W4, hW4⟩ : ∃ W4, W4 = ((((w.alloc (.cells #[.pointer (some ⟨p, 0, none⟩)] 37)).alloc (.cells #[.int .i64 0] 2)).alloc (.cells #[.slice none 0 0] 22)).alloc (.cells #[.int .i64 0] 23)) := ⟨_, rfl⟩
  rw [← hW4] at HLC HB4 ⊢
  clear hW4
  obtain ⟨q, hq⟩ : ∃ q, q = w.heap.size := ⟨_, rfl⟩
  rw [← hq] at HLC ⊢
  have HQ : Hid (q = w.heap.size) := hq
  clear hq
  have y0 := HLC.out.a.cell 0 (v := .pointer (some ⟨p, 0, none⟩)) rfl
  gi_wp2
  have C2 : CallsIn Fence.wide 7 Tryz.prog 12 #[.pointer (some ⟨p, 0, none⟩)] W4 _ := (callsIn_wide (n := 7)).2 (HLS.out _ HB4.out)
  refine ⟨trivial, C2.mono ?_⟩
  rintro e w5 ⟨v, ks, rfl, o5, nu5, b5⟩
  clear C2 y0
  obtain ⟨sa, cap, rfl, hc1, hc2⟩ := o5.form
  obtain ⟨L, hL⟩ : ∃ L, L = ks.length := ⟨_, rfl⟩
  rw [← hL] at hc1 ⊢
  have HKL : Hid (L = ks.length) := hL
  have hL64 : L ≤ 64 := by rw [hL]; exact Nat.le_trans nu5.len hl
  have hSL := o5.sl
  rw [← hL] at hSL
  have HSL := (show Hid _ from hSL)
  have HNU : Hid (Nums x.fs ks) := nu5
  have HB5 : Hid (Below w.heap.size w w5) := HB4.out.trans (b5.mono HB4.out.size)
  have HLC5 : Hid (LC w w5 q p (.int .i64 0) (.slice none 0 0) (.int .i64 0)) := ⟨HLC.out.a.step b5, HLC.out.b.step b5, HLC.out.c.step b5, HLC.out.d.step b5⟩
  clear o5 nu5 b5 hL hSL HLC HB4
  gi_wp2
  refine ⟨trivial, (back_in Fence.wide 7 trivial rfl _ _ _ _).mono ?_⟩
  rintro e w' ⟨rfl, rfl⟩
  have b6 := (Below.refl w5.heap.size w5).alloc (Nat.le_refl _) (.cells #[.slice sa L cap] 31)
  have v6 := va_new w5 [.slice sa L cap] 31
  have HSL6 := (show Hid _ from HSL.out.step b6)
  have HB6 := (show Hid _ from HB5.out.trans (b6.mono HB5.out.size))
  have HLC6 : Hid (LC w _ q p (.int .i64 0) (.slice none 0 0) (.int .i64 0)) := ⟨HLC5.out.a.step b6, HLC5.out.b.step b6, HLC5.out.c.step b6, HLC5.out.d.step b6⟩
  have HV6 := (show Hid _ from v6)
  obtain ⟨W6, hW6⟩ : ∃ W6, W6 = w5.alloc (.cells #[.slice sa L cap] 31) := ⟨_, rfl⟩
  rw [← hW6] at HSL6 HB6 HLC6 HV6 ⊢
  obtain ⟨q6, hq6⟩ : ∃ q6, q6 = w5.heap.size := ⟨_, rfl⟩
  rw [← hq6] at HV6 ⊢
  have HQ6 : Hid (q + 4 ≤ q6 ∧ q6 < W6.heap.size) := ⟨by have := HLC5.out.d.lt; omega, HV6.out.lt⟩
  clear b6 v6 hW6 hq6 HSL HB5 HLC5
  gi_wp2
  have hP : ∀ j, (fun n => n ∈ ks ∨ ks = []) (ks.getD j (ks.headD 0)) := fun j => by
    cases hk : ks with
    | nil => exact Or.inr rfl
    | cons a r =>
      left
      by_cases hj : j < (a :: r).length
      · rw [List.getD, List.getElem?_eq_getElem hj]
        exact List.getElem_mem _
      · rw [List.getD, List.getElem?_eq_none (Nat.le_of_not_lt hj)]
        exact List.mem_cons_self ..
  have HC2 : 0 < L → ∃ b off, sa = some ⟨b, off, none⟩ ∧ b < W6.heap.size ∧ ∀ j, j < L → W6.cell? ⟨b, off + j, none⟩ = some (.int .i64 ((ks.getD j (ks.headD 0) : Nat) : Int)) := fun h0 => by
    have hget : ∀ j, j < L → ks[j]? = some (ks.getD j (ks.headD 0)) := fun j hj => by
      have : j < ks.length := by rw [← HKL.out]; exact hj
      rw [List.getD, List.getElem?_eq_getElem this]
      rfl
    obtain ⟨b, off, e, hb, _⟩ := HSL6.out.at 0 _ (hget 0 h0)
    refine ⟨b, off, e, hb, fun j hj => ?_⟩
    obtain ⟨b', off', e', hb', hx⟩ := HSL6.out.at j _ (hget j hj)
    rw [e] at e'
    cases e'
    have := hx 0 (.int .i64 ((ks.getD j (ks.headD 0) : Nat) : Int)) rfl
    simpa [KI] using this
  refine wpIn_rangeFunc_ownH rfl (by omega) (gf := 36) (lb := #[.pointer (some ⟨q6, 0, none⟩)]) rfl trivial (enters_of Tryz.func36 (by kernel_rfl) rfl)
    (back_stops Fence.wide (8 - 1) trivial rfl (by omega) q6 W6.heap.size cap L sa ks (ks.headD 0) hP HKL.out hL64 W6 HQ6.out.2 (Nat.le_refl _) (HV6.out.cell 0 rfl) ⟨hc1, hc2⟩ HC2) belowK_t (belowK_b (Nat.le_refl _)) (Below.refl _ _) (fun _ => rfl)
    (fun pre W => (pre = [] ∧ W6.heap.size ≤ W.heap.size ∧ LC w W q p (.int .i64 0) (.slice none 0 0) (.int .i64 0)) ∧ Below w.heap.size w W)
    (fun c pre W => (c = .ret ∧ ∃ (y : KE (fun n => n ∈ ks ∨ ks = [])) (u : Value), pre = [y] ∧ y.1.2 ∈ ks ∧ LC w W q p (.int .i64 (y.1.2 : Int)) u (.int .i64 0) ∧ Bs W u (F y.1.2) ∧ Safe W u) ∧ Below w.heap.size w W)
    (OwnFrom.and (Own.from (fun s X Y row hs hg hr => ⟨hs.1, Nat.le_trans hs.2.1 hg.size, hs.2.2.kee (kee_grown hg hr)⟩) _) (ownFrom_below (Nat.le_refl _) (HB6.out.size)))
    (fun c => OwnFrom.and (Own.from (fun s X Y row hs hg hr => by obtain ⟨hc, y, u, e1, e2, e3, e4, e5⟩ := hs; exact ⟨hc, y, u, e1, e2, e3.kee (kee_grown hg hr), e4.kee e5 (kee_grown hg hr), Safe.kee e5 (kee_grown hg hr)⟩) _) (ownFrom_below (Nat.le_refl _) (HB6.out.size)))
    ⟨⟨rfl, Nat.le_refl _, HLC6.out⟩, HB6.out⟩
    (fun y a' W => a' = { tmps := #[.pointer (some ⟨p, 0, none⟩), .pointer (some ⟨q, 0, none⟩), .pointer (some ⟨q + 1, 0, none⟩), .pointer (some ⟨q + 1 + 1, 0, none⟩), .pointer (some ⟨q + 1 + 1 + 1, 0, none⟩), undef, .int .i64 (y.1.2 : Int), undef, undef, undef, undef, .pointer (some ⟨p, 0, none⟩), .bool false, .pointer (some ⟨p, 0, none⟩), .bool true, .bool false, .pointer (some ⟨p, 0, none⟩), .slice sa L cap, .func (.func 36) #[] #[.pointer (some ⟨q6, 0, none⟩)], .int .i64 y.1.1, .int .i64 (y.1.2 : Int), undef, undef, undef, undef, undef, undef, undef, undef, undef, undef, undef, undef, undef, undef, undef, undef, undef, undef], defers := [] })
    (fun y a' _ X Y row hs hg hr => hs)
    ?assign ?body ?done ?stop
  case assign =>
    rintro l pre y W K ⟨⟨hp, hsz, hc⟩, hB⟩ hK
    obtain ⟨⟨y1, y2⟩, hy⟩ := y
    have HCC := (show Hid _ from hc)
    unfold encK
    dsimp only
    clear hc
    gi_wp2
    exact hK _ _ (KeepsFrom.refl _ _) (Below.refl _ _) ⟨⟨hp, hsz, HCC.out⟩, hB⟩ rfl
  case body =>
    rintro l pre y a' W hl' ⟨r, hr⟩ ⟨⟨hp, hsz, hc⟩, hB⟩ rfl hlt
    obtain ⟨⟨y1, n⟩, hy⟩ := y
    subst hp
    have hnk : n ∈ ks := by
      rcases hy with h1 | h1
      · exact h1
      · have := HKL.out
        rw [h1] at this
        simp at this hlt
        omega
    obtain ⟨hn, hn2⟩ := (HNU.out.mem n).1 hnk
    obtain ⟨⟨t, ht, hfl⟩, hby, hf0, hf1⟩ := HW.out n hn hn2
    have hsee : seen x (nmS n) = (0, t.2.1) := seen_on (nmS_is n) ht hon
    have HSE := (show Hid _ from hsee)
    have HFL := (show Hid _ from hfl)
    have HBY := (show Hid _ from hby)
    have HF0 := (show Hid _ from hf0)
    have HF1 := (show Hid _ from hf1)
    have HNK := (show Hid _ from hnk)
    have HCC := (show Hid _ from hc)
    have HBW := (show Hid _ from hB)
    have HDW : Hid (DA W B p m x) := HD.out.step hB
    have HTW : Hid (PtB B W) := HT.out.on (hB.mono HLO.out)
    clear hc hB hsee hfl hby hf0 hf1 hnk ht hn2
    dsimp only
    gi_wp2
    refine region_round_held (fun w' => VA w' q [.pointer (some ⟨p, 0, none⟩)] 37) (by kernel_rfl) (by kernel_rfl) (fun h => by obtain ⟨_, _, h⟩ := h; exact h) (VA.drew HCC.out.a) ?_
    intro hHeld
    refine takeD 0 22 (.pointer (some ⟨p, 0, none⟩)) (by exact rfl) rfl (by kernel_rfl) (by kernel_rfl) (by kernel_rfl) (fun _ _ _ h => h) (Or.inl ⟨by rfl, ?_⟩) (by assumption) ?_
    · intro wq hS
      have y := hS.cell 0 (v := .pointer (some ⟨p, 0, none⟩)) rfl
      go_simp
    try simp only [Act.put, List.setIfInBounds_toArray, List.set_cons_zero, List.set_cons_succ]
    refine takeD 1 23 (.int .i64 (n : Int)) (by exact rfl) rfl (by kernel_rfl) (by kernel_rfl) (by kernel_rfl) (fun _ _ _ h => h) (Or.inl ⟨by rfl, ?_⟩) (by assumption) ?_
    · intro wq hS
      go_simp
    try simp only [Act.put, List.setIfInBounds_toArray, List.set_cons_zero, List.set_cons_succ]
    refine wpAnyH_ready (rs := [2]) (by kernel_rfl) (by simp) ?_
    refine AllReadyH.cons (by exact rfl) (fun K hK => ?_) AllReadyH.nil
    go_simp
    have HD0 : Hid (DA W.drew B p m x) := HDW.out.step (Below.refl _ _).drew
    have HB0 : Hid (Below W.heap.size W W.drew) := (Below.refl _ _).drew
    have HC0 : Hid (LC w W.drew q p (.int .i64 0) (.slice none 0 0) (.int .i64 0)) := HCC.out.kee (Kee.bel (Below.refl _ _).drew)
    refine Calls.mono (sname_ok n _ hn (HTW.out.pt.on (Below.refl _ _).drew)) ?_
    rintro e w1 ⟨rfl, b1⟩
    have HD1 : Hid (DA w1 B p m x) := HD0.out.step b1
    have HB1 : Hid (Below W.heap.size W w1) := HB0.out.trans (b1.mono HB0.out.size)
    have HC1 : Hid (LC w w1 q p (.int .i64 0) (.slice none 0 0) (.int .i64 0)) := HC0.out.kee (Kee.bel b1)
    clear b1 HD0 HB0 HC0 hHeld
    go_wp2_with fail
    refine hK.out _ _ HC1.out.a (fun _ => ?_)
    clear hK K
    try simp only [Act.put, List.setIfInBounds_toArray, List.set_cons_zero, List.set_cons_succ]
    refine wpAnyH_ready (rs := [3]) (by kernel_rfl) (by simp) ?_
    refine AllReadyH.cons (by exact rfl) (fun K hK => ?_) AllReadyH.nil
    go_simp
    have CR := read_any w1 B p m x HD1.out ⟨(nmS n).toArray⟩ (by show (nmS n).toArray.size ≤ _; simp [nmS_len])
    rw [show (⟨(nmS n).toArray⟩ : ByteArray).data.toList = nmS n by simp, HSE.out, HFL.out] at CR
    refine Calls.mono CR ?_
    rintro e w2 ⟨⟨u, rfl, o2⟩, b2⟩
    have HO2 : Hid (Bs w2 u (secS (F n))) := o2.bs
    have HB2 : Hid (Below W.heap.size W w2) := HB1.out.trans (b2.mono HB1.out.size)
    have HC2' : Hid (LC w w2 q p (.int .i64 0) (.slice none 0 0) (.int .i64 0)) := HC1.out.kee (Kee.bel b2)
    clear b2 HD1 HB1 HC1 CR o2
    go_wp2_with fail
    refine hK.out _ _ HC2'.out.a (fun _ => ?_)
    clear hK K
    try simp only [Act.put, List.setIfInBounds_toArray, List.set_cons_zero, List.set_cons_succ]
    refine takeD 4 21 (.tuple #[u, .int .i64 0]) (by exact rfl) rfl (by kernel_rfl) (by kernel_rfl) (by kernel_rfl) (fun _ _ _ h => h) (Or.inl ⟨by rfl, ?_⟩) (by assumption) ?_
    · intro wq hS
      go_simp
    try simp only [Act.put, List.setIfInBounds_toArray, List.set_cons_zero, List.set_cons_succ]
    refine takeD 5 26 (u) (by exact rfl) rfl (by kernel_rfl) (by kernel_rfl) (by kernel_rfl) (fun _ _ _ h => h) (Or.inl ⟨by rfl, ?_⟩) (by assumption) ?_
    · intro wq hS
      go_simp
    try simp only [Act.put, List.setIfInBounds_toArray, List.set_cons_zero, List.set_cons_succ]
    refine takeD 6 27 (.int .i64 0) (by exact rfl) rfl (by kernel_rfl) (by kernel_rfl) (by kernel_rfl) (fun _ _ _ h => h) (Or.inl ⟨by rfl, ?_⟩) (by assumption) ?_
    · intro wq hS
      go_simp
    try simp only [Act.put, List.setIfInBounds_toArray, List.set_cons_zero, List.set_cons_succ]
    refine wpAnyH_ready (rs := [7]) (by kernel_rfl) (by simp) ?_
    refine AllReadyH.cons (by exact rfl) (fun K hK => ?_) AllReadyH.nil
    go_simp
    refine hK.out _ _ HC2'.out.a (fun _ => ?_)
    clear hK K
    try simp only [Act.put, List.setIfInBounds_toArray, List.set_cons_zero, List.set_cons_succ]
    refine wpAnyH_ready (rs := [8]) (by kernel_rfl) (by simp) ?_
    refine AllReadyH.cons (by exact rfl) (fun K hK => ?_) AllReadyH.nil
    go_simp
    refine hK.out _ _ HC2'.out.a (fun _ => ?_)
    clear hK K
    try simp only [Act.put, List.setIfInBounds_toArray, List.set_cons_zero, List.set_cons_succ]
    refine wpAnyH_done (by kernel_rfl) ?_ _
    refine NoPanic.normal ?_
    gi_wp2
    have hpl : CallsIn (Fence.wide.inRound l) 5 Tryz.prog 23 #[u] w2 fun e w' => (∃ u', e = .returned (.tuple #[u', .bool true]) ∧ Bs w' u' (F n) ∧ Safe w' u') ∧ Below w2.heap.size w2 w' := (callsIn_wide (n := 5)).2 (payload_ok u (F n) w2 HBY.out HO2.out HF0.out HF1.out)
    refine ⟨trivial, hpl.mono ?_⟩
    rintro e w3 ⟨⟨u3, rfl, hb3, hs3⟩, b3⟩
    obtain ⟨a3, n3, c3, rfl⟩ : ∃ a n c, u3 = .slice a n c := by obtain ⟨_, a, c, e, _⟩ := hb3; exact ⟨_, _, _, e⟩
    have HB3 : Hid (Below W.heap.size W w3) := HB2.out.trans (b3.mono HB2.out.size)
    have HC3 : Hid (LC w w3 q p (.int .i64 0) (.slice none 0 0) (.int .i64 0)) := HC2'.out.kee (Kee.bel b3)
    have HBS3 := (show Hid _ from hb3)
    have HSF3 : Hid (Safe w3 (.slice a3 n3 c3)) := hs3
    clear b3 HB2 HC2' hb3 hs3 hpl HO2
    have y1 := HC3.out.b.cell 0 (v := .int .i64 0) rfl
    have y2 := HC3.out.c.cell 0 (v := .slice none 0 0) rfl
    have y3 := HC3.out.d.cell 0 (v := .int .i64 0) rfl
    have f1 := HC3.out.b.free 0
    have f2 := HC3.out.c.free 0
    have f3 := HC3.out.d.free 0
    gi_wp2
    clear y1 y2 y3 f1 f2 f3
    have hq := HQ.out
    have V0 := ((HC3.out.a.set_other (q := q + 1) (by omega) 0 (.int .i64 (n : Int))).set_other (q := q + 1 + 1) (by omega) 0 (.slice a3 n3 c3)).set_other (q := q + 1 + 1 + 1) (by omega) 0 (.int .i64 0)
    have V1 := ((HC3.out.b.set 0 (.int .i64 (n : Int))).set_other (q := q + 1 + 1) (by omega) 0 (.slice a3 n3 c3)).set_other (q := q + 1 + 1 + 1) (by omega) 0 (.int .i64 0)
    have V2 := ((HC3.out.c.set_other (q := q + 1) (by omega) 0 (.int .i64 (n : Int))).set 0 (.slice a3 n3 c3)).set_other (q := q + 1 + 1 + 1) (by omega) 0 (.int .i64 0)
    have V3 := ((HC3.out.d.set_other (q := q + 1) (by omega) 0 (.int .i64 (n : Int))).set_other (q := q + 1 + 1) (by omega) 0 (.slice a3 n3 c3)).set 0 (.int .i64 0)
    have U1 := upd_set w3 (q + 1) 0 (.int .i64 (n : Int))
    have U2 := upd_set (w3.setCell ⟨q + 1, 0, none⟩ (.int .i64 (n : Int))) (q + 1 + 1) 0 (.slice a3 n3 c3)
    have U3 := upd_set ((w3.setCell ⟨q + 1, 0, none⟩ (.int .i64 (n : Int))).setCell ⟨q + 1 + 1, 0, none⟩ (.slice a3 n3 c3)) (q + 1 + 1 + 1) 0 (.int .i64 0)
    have kk := (((keeps_below HB3.out).trans (keeps_upd HC3.out.b U1)).trans (keeps_upd (HC3.out.c.set_other (q := q + 1) (by omega) 0 (.int .i64 (n : Int))) U2)).trans (keeps_upd ((HC3.out.d.set_other (q := q + 1) (by omega) 0 (.int .i64 (n : Int))).set_other (q := q + 1 + 1) (by omega) 0 (.slice a3 n3 c3)) U3)
    have bb := U3.bel (U2.bel (U1.bel (HBW.out.trans (HB3.out.mono HBW.out.size)) (by omega)) (by omega)) (by omega)
    have m1 := bs_not HBS3.out HF0.out HC3.out.b (fun k e => by cases e)
    have m2 := bs_not HBS3.out HF0.out HC3.out.c (fun k e => by cases e)
    have m3 := bs_not HBS3.out HF0.out HC3.out.d (fun k e => by cases e)
    have hbs := bs_upd (bs_upd (bs_upd HBS3.out U1 m1) U2 m2) U3 m3
    have hsf := safe_upd (safe_upd (safe_upd HSF3.out U1 m1) U2 m2) U3 m3
    exact ⟨kk.from _, ⟨rfl, ⟨(y1, n), hy⟩, .slice a3 n3 c3, rfl, HNK.out, ⟨V0, V1, V2, V3⟩, hbs, hsf⟩, bb⟩
  case done =>
    rintro D ys W hD hys ⟨⟨hp, hsz, hc⟩, hB⟩ hK
    have HK := (show Hid _ from hK)
    have HCC := (show Hid _ from hc)
    have FB := (show Hid _ from hB)
    have FP := (show Hid _ from hp)
    have hys' : ys = upto (bkS ks (ks.headD 0) hP) L := hys
    have hL0 : L = 0 := by rw [hys'] at hp; have := congrArg List.length hp; rw [upto_length] at this; simpa using this
    clear hc hB hK hp hys hys'
    have y1 := HCC.out.b.cell 0 (v := .int .i64 0) rfl
    have y2 := HCC.out.c.cell 0 (v := .slice none 0 0) rfl
    have y3 := HCC.out.d.cell 0 (v := .int .i64 0) rfl
    have f1 := HCC.out.b.free 0
    have f2 := HCC.out.c.free 0
    have f3 := HCC.out.d.free 0
    gi_wp2
    clear y1 y2 y3 f1 f2 f3
    have hq := HQ.out
    have V1 := ((HCC.out.b.set 0 (.int .i64 0)).set_other (q := q + 1 + 1) (by omega) 0 (.slice none 0 0)).set_other (q := q + 1 + 1 + 1) (by omega) 0 (.int .i64 7)
    have V2 := ((HCC.out.c.set_other (q := q + 1) (by omega) 0 (.int .i64 0)).set 0 (.slice none 0 0)).set_other (q := q + 1 + 1 + 1) (by omega) 0 (.int .i64 7)
    have V3 := ((HCC.out.d.set_other (q := q + 1) (by omega) 0 (.int .i64 0)).set_other (q := q + 1 + 1) (by omega) 0 (.slice none 0 0)).set 0 (.int .i64 7)
    have U1 := upd_set W (q + 1) 0 (.int .i64 0)
    have U2 := upd_set (W.setCell ⟨q + 1, 0, none⟩ (.int .i64 0)) (q + 1 + 1) 0 (.slice none 0 0)
    have U3 := upd_set ((W.setCell ⟨q + 1, 0, none⟩ (.int .i64 0)).setCell ⟨q + 1 + 1, 0, none⟩ (.slice none 0 0)) (q + 1 + 1 + 1) 0 (.int .i64 7)
    have kk := ((keeps_upd HCC.out.b U1).trans (keeps_upd (HCC.out.c.set_other (q := q + 1) (by omega) 0 (.int .i64 0)) U2)).trans (keeps_upd ((HCC.out.d.set_other (q := q + 1) (by omega) 0 (.int .i64 0)).set_other (q := q + 1 + 1) (by omega) 0 (.slice none 0 0)) U3)
    have hK' := kk.same D _ HK.out rfl
    have bb := U3.bel (U2.bel (U1.bel FB.out (by omega)) (by omega)) (by omega)
    generalize ((W.setCell ⟨q + 1, 0, none⟩ (.int .i64 0)).setCell ⟨q + 1 + 1, 0, none⟩ (.slice none 0 0)).setCell ⟨q + 1 + 1 + 1, 0, none⟩ (.int .i64 7) = W9 at *
    clear U1 U2 U3 kk
    refine ⟨by simp, .inl ⟨_, _, rfl, run_takeDeferred hK', ?_⟩⟩
    have kg := kee_grown (grownBy_putObj' W9 D (.deferred none)) (fun r e => by cases e; exact ⟨_, hK', rfl⟩)
    have z1 := (V1.kee kg (by unfold Dt; decide)).cell 0 (v := .int .i64 0) rfl
    have z2 := (V2.kee kg (by unfold Dt; decide)).cell 0 (v := .slice none 0 0) rfl
    have z3 := (V3.kee kg (by unfold Dt; decide)).cell 0 (v := .int .i64 7) rfl
    refine ⟨.tuple #[.int .i64 0, .slice none 0 0, .int .i64 7], ?_, .inr ⟨rfl, fun n hn hn2 => ?_⟩, bb.trans (belowK_b (w := w) (Nat.le_refl _) _ D _ _ (Nat.le_trans HB6.out.size hD) hK' rfl rfl)⟩
    · simp [results, Tryz.results6, go_sem, asAddr, z1, z2, z3]
    · have h1 := (HNU.out.mem n).2 ⟨hn, hn2⟩
      have h2 := List.length_pos_of_mem h1
      have h3 := HKL.out
      omega
  case stop =>
    rintro D c pre W hD ⟨k, hk, hpre⟩ ⟨⟨rfl, y, u, e1, e2, hc, hbs, hsf⟩, hB⟩ hK
    gi_wp2
    refine ⟨by simp, .inl ⟨_, _, rfl, run_takeDeferred hK, ?_⟩⟩
    have kg := kee_grown (grownBy_putObj' W D (.deferred none)) (fun r e => by cases e; exact ⟨_, hK, rfl⟩)
    have hc7 := hc.kee kg
    have z1 := hc7.b.cell 0 (v := .int .i64 (y.1.2 : Int)) rfl
    have z2 := hc7.c.cell 0 (v := u) rfl
    have z3 := hc7.d.cell 0 (v := .int .i64 0) rfl
    have hk1 : k = 1 := by rw [e1] at hpre; have := congrArg List.length hpre; rw [upto_length] at this; simpa using this.symm
    subst hk1
    have hy : y.1.2 = ks.getD (ks.length - 1) (ks.headD 0) := by
      rw [e1, upto_succ] at hpre
      have : y = bkS ks (ks.headD 0) hP 0 := by simpa [upto] using hpre
      rw [this]
      rfl
    have hm := (HNU.out.mem y.1.2).1 e2
    have hgr : ∀ n, n ≤ 999999999999 → nmS n ∈ nms x.fs → n ≤ y.1.2 := fun n hn hn2 => by
      rw [hy]
      exact srt_last HNU.out.srt ((HNU.out.mem n).2 ⟨hn, hn2⟩) _
    refine ⟨.tuple #[.int .i64 (y.1.2 : Int), u, .int .i64 0], ?_, .inl ⟨y.1.2, u, rfl, ⟨hm.1, hm.2, hgr⟩, hbs.kee hsf kg, Safe.kee hsf kg⟩, hB.trans (belowK_b (w := w) (Nat.le_refl _) _ D _ _ (Nat.le_trans HB6.out.size hD) hK rfl rfl)⟩
    simp [results, Tryz.results6, go_sem, asAddr, z1, z2, z3]
end Go.Proofs.YtgabklihgjjjeaaGreatDoor
