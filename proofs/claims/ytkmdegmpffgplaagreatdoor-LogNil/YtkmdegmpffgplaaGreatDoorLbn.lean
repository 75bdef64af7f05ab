/- log XI: discard, where there is nothing to do away with. -/
import Derived.Test.YtkmdegmpffgplaaGreatDoorLbl
import Derived.Test.YtkmdegmpffgplaaGreatDoorLbm
namespace Go.Proofs.YtkmdegmpffgplaaGreatDoor
open Go.RowKit Go.Maps Go.Sort Go.Shelf pk
set_option linter.unusedVariables false
set_option linter.unusedSimpArgs false
theorem kee_grown {X Y : World} {row : Option Nat} (hg : X.grownBy Y row) (hr : ∀ r, row = some r → ∃ o : Obj, X.heap[r]? = some o ∧ o.isCells = false) : Kee X Y := by
  cases row with
  | none => exact Kee.bel ⟨hg.os, hg.tape, hg.output, hg.size, fun i hi => hg.block i hi (by simp)⟩
  | some r => obtain ⟨o, ho, hc⟩ := hr r rfl; exact Kee.row hg ho (Or.inl hc)
theorem keeps_upd {w w' : World} {p : Nat} {cs : List Value} {T : TypeId} (h : VA w p cs T) (k : Upd p w w') : KeepsOthers w w' := ⟨by rw [k.size]; exact Nat.le_refl _, fun j o h0 ho => by
  refine (k.block j ?_).trans h0
  rintro rfl
  rw [h.blk] at h0
  cases h0
  simp [Obj.isCells] at ho⟩
attribute [local go_sem] Oper.semAt_some ext_cell ext_frozen ext_drew ext_of_drew ext_of_drewN ext_setCell ext_lt ext_lt1 ext_lt2 ext_lt3 lt_n2 lt_n3 lt_n4 lt_n5 lt_n6
set_option maxRecDepth 100000 in
set_option maxHeartbeats 4000000 in
theorem discard_none (w : World) (lp : Nat) (kept : Int) (ra : Option Addr) (rc : Nat) (ja : Option Addr) (jc : Nat) (hjc : jc ≤ 9223372036854775807) :
    Calls Tryz.prog 75 #[.pointer (some ⟨lp, 0, none⟩), .int .i64 kept, .slice ra 0 rc, .slice ja 0 jc] w fun e w' => e = .returned (.int .i64 0) ∧ Below w.heap.size w w' := by
  have b1 := (Below.refl w.heap.size w).alloc (Nat.le_refl _) (.cells #[.pointer (some ⟨lp, 0, none⟩)] 23)
  have b2 := b1.alloc b1.size (.cells #[.int .i64 0] 24)
  have b3 := b2.alloc b2.size (.cells #[.slice ja 0 jc] 47)
  have v2 := (va_new (w.alloc (.cells #[.pointer (some ⟨lp, 0, none⟩)] 23)) [.int .i64 0] 24).alloc (.cells #[.slice ja 0 jc] 47)
  have v3 := va_new ((w.alloc (.cells #[.pointer (some ⟨lp, 0, none⟩)] 23)).alloc (.cells #[.int .i64 0] 24)) [.slice ja 0 jc] 47
  simp only [World.size_alloc] at v2 v3
  have HB3 := (show Hid _ from b3)
  have HV2 := (show Hid _ from v2)
  have HV3 := (show Hid _ from v3)
  clear b1 b2 b3 v2 v3
  refine (callsIn_wide (n := 8)).1 ?_
  have hF : ∀ f, Fence.wide.fn f := fun _ => trivial
  have hF1 := hF 98
  refine callsIn_of_wp_marks Tryz.func75 rfl trivial ?_ rfl
  simp only [Tryz.ntmps75, List.size_toArray, List.length_cons, List.length_nil, Nat.reduceAdd, Nat.reduceSub, Array.replicate_succ, Array.replicate_zero, List.push_toArray, List.append_toArray, List.nil_append, List.cons_append]
  gi_wp2
  refine CallsIn.mono (back_in Fence.wide 7 trivial rfl _ _ _ _) ?_
  rintro e w' ⟨rfl, rfl⟩
  obtain ⟨W6, hW6⟩ : ∃ W6, W6 = ((w.alloc (.cells #[.pointer (some ⟨lp, 0, none⟩)] 23)).alloc (.cells #[.int .i64 0] 24)).alloc (.cells #[.slice ja 0 jc] 47) := ⟨_, rfl⟩
  rw [← hW6] at HB3 HV2 HV3 ⊢
  clear hW6
  rw [show ((w.alloc (.cells #[.pointer (some ⟨lp, 0, none⟩)] 23)).alloc (.cells #[.int .i64 0] 24)).heap.size = w.heap.size + 1 + 1 by simp]
  gi_wp2
  refine wpIn_rangeFunc_ownH rfl (by omega) (gf := 115) (lb := #[.pointer (some ⟨w.heap.size + 1 + 1, 0, none⟩)]) rfl trivial (enters_of Tryz.func115 (by kernel_rfl) rfl)
    (back_stops Fence.wide (8 - 1) trivial rfl (by omega) (w.heap.size + 1 + 1) W6.heap.size jc 0 ja (P := fun _ => True) [] 0 (fun _ => trivial) rfl (by omega) W6 HV3.out.lt (Nat.le_refl _) (HV3.out.cell 0 rfl) ⟨by omega, hjc⟩ (fun h => absurd h (by omega))) belowK_t (belowK_b (Nat.le_refl _)) (Below.refl _ _) (fun _ => rfl)
    (fun pre W => VA W (w.heap.size + 1) [.int .i64 0] 24 ∧ Below w.heap.size w W)
    (fun c pre W => False)
    (OwnFrom.and (Own.from (fun s X Y row hs hg hr => hs.kee (kee_grown hg hr) (by unfold Dt; decide)) _) (ownFrom_below (Nat.le_refl _) (HB3.out.size)))
    (fun _ _ _ _ _ h _ _ => h)
    ⟨HV2.out, HB3.out⟩
    (fun y a' W => True)
    (fun y a' _ X Y row hs hg hr => trivial)
    ?assign ?body ?done ?stop
  case assign =>
    rintro l pre y W K ⟨hc, hB⟩ hK
    obtain ⟨⟨y1, y2⟩, hy⟩ := y
    have HCC := (show Hid _ from hc)
    unfold encK
    dsimp only
    clear hc
    gi_wp2
    exact hK _ _ (KeepsFrom.refl _ _) (Below.refl _ _) ⟨HCC.out, hB⟩ trivial
  case body =>
    rintro l pre y a' W hl' ⟨r, hr⟩ ⟨hc, hB⟩ _ hlt
    exact absurd hlt (Nat.not_lt_zero _)
  case done =>
    rintro D ys W hD hys ⟨hc, hB⟩ hK
    have HK := (show Hid _ from hK)
    have HCC := (show Hid _ from hc)
    have FB := (show Hid _ from hB)
    clear hc hB hK hys
    have y1 := HCC.out.cell 0 (v := .int .i64 0) rfl
    have f1 := HCC.out.free 0
    gi_wp2
    clear y1 f1
    have V1 := HCC.out.set 0 (.int .i64 0)
    have U1 := upd_set W (w.heap.size + 1) 0 (.int .i64 0)
    have kk := keeps_upd HCC.out U1
    have hK' := kk.same D _ HK.out rfl
    have bb := U1.bel FB.out (by omega)
    generalize W.setCell ⟨w.heap.size + 1, 0, none⟩ (.int .i64 0) = W9 at *
    clear U1 kk
    refine ⟨by simp, .inl ⟨_, _, rfl, run_takeDeferred hK', ?_⟩⟩
    have kg := kee_grown (grownBy_putObj' W9 D (.deferred none)) (fun r e => by cases e; exact ⟨_, hK', rfl⟩)
    have z1 := (V1.kee kg (by unfold Dt; decide)).cell 0 (v := .int .i64 0) rfl
    refine ⟨.int .i64 0, ?_, rfl, bb.trans (belowK_b (w := w) (Nat.le_refl _) _ D _ _ (Nat.le_trans HB3.out.size hD) hK' rfl rfl)⟩
    simp [results, Tryz.results75, go_sem, asAddr, z1]
  case stop =>
    rintro D c pre V _ _ h _
    exact h.elim
end Go.Proofs.YtkmdegmpffgplaaGreatDoor
/- log XII: read, of a whole log. -/
namespace Go.Proofs.YtkmdegmpffgplaaGreatDoor
open Go.RowKit Go.Maps Go.Sort Go.Shelf pk
set_option linter.unusedVariables false
set_option linter.unusedSimpArgs false
theorem But.upd {lp : Nat} {w a b : World} (h : But (fun i => i = lp) w a) (k : Upd lp a b) : But (fun i => i = lp) w b := h.trans k.but (fun _ _ h => h)
theorem But.kel {lp p : Nat} {w w' : World} {g : LG} (h : But (fun i => i = lp) w w') (v : Lg w lp p g) : KeL w w' :=
  ⟨h.os, h.tape, h.output, h.size, fun i o e hn => (h.block i (hlt_of e) (fun er => by have er' : i = lp := er; subst er'; rw [VA.blk v] at e; cases e; exact hn _ _ rfl)).trans e⟩
set_option maxRecDepth 100000 in
set_option maxHeartbeats 4000000 in
theorem read_none (w : World) (lp p : Nat) (g : LG) (h : Lg w lp p g) (ho : g.ok) (va : Option Addr) (vc : Nat) :
    Calls Tryz.prog 38 #[.pointer (some ⟨lp, 0, none⟩), .slice va 0 vc] w fun e w' => e = .returned (.tuple #[.slice none 0 0, .int .i64 0]) ∧ Lg w' lp p { g with high := g.low, next := g.low * g.per + 1 } ∧ But (fun i => i = lp) w w' := by
  have HG : Hid (Lg w lp p g) := h
  have HOK : Hid g.ok := ho
  have HBU : Hid (But (fun i => i = lp) w w) := But.refl _ _
  clear h ho
  have HFO := (show Hid _ from fun w' (k : Lg w' lp p g) => firstOf_ok w' lp p g k HOK.out g.low HOK.out.low)
  obtain ⟨lo, hlo⟩ : ∃ lo, lo = g.low := ⟨_, rfl⟩
  obtain ⟨fn, hfn⟩ : ∃ fn, fn = g.low * g.per + 1 := ⟨_, rfl⟩
  rw [← hfn, ← hlo] at HFO
  rw [← hlo]
  have HLOW : Hid ((({ g with high := lo, next := fn } : LG).cells p)[2]? = some (.int .i64 (lo : Int))) := (show _ = _ by rw [hlo]; rfl)
  have HY2 : Hid (w.drew.cell? ⟨lp, 2, none⟩ = some (.int .i64 (lo : Int))) := (show _ = _ by rw [hlo]; exact HG.out.cell 2 rfl)
  have HEQ : Hid (fn = lo * g.per + 1) := (show _ = _ by rw [hfn, hlo])
  have HLE : Hid (lo = g.low) := hlo
  clear hlo hfn
  go_enter Tryz.func38, Tryz.ntmps38
  go_upto_region 3 with fail
  refine wp_region_noPanic ?_
  refine wp_region_held_drew (S := fun V => V.cell? ⟨lp, 2, none⟩ = some (.int .i64 (lo : Int))) (by kernel_rfl) HY2.out ?_
  intro hHeld
  have HB0 : Hid (But (fun i => i = lp) w w.drew) := ⟨HBU.out.os, HBU.out.tape, HBU.out.output, HBU.out.size, HBU.out.block⟩
  have HG0 : Hid (Lg w.drew lp p (g)) := VA.drew HG.out
  clear HBU HG HY2
  generalize w.drew = w1 at *
  refine takeD 0 23 (.pointer (some ⟨lp, 0, none⟩)) (by exact rfl) rfl (by kernel_rfl) (by kernel_rfl) (by kernel_rfl) (fun _ _ _ h => h) (Or.inl ⟨by rfl, ?_⟩) (by assumption) ?_
  · intro wq hS
    go_simp
  try simp only [Act.put, List.setIfInBounds_toArray, List.set_cons_zero, List.set_cons_succ]
  refine takeD 1 24 (.pointer (some ⟨lp, 0, none⟩)) (by exact rfl) rfl (by kernel_rfl) (by kernel_rfl) (by kernel_rfl) (fun _ _ _ h => h) (Or.inl ⟨by rfl, ?_⟩) (by assumption) ?_
  · intro wq hS
    go_simp
  try simp only [Act.put, List.setIfInBounds_toArray, List.set_cons_zero, List.set_cons_succ]
  refine takeD 2 25 (.pointer (some ⟨lp, 0, none⟩)) (by exact rfl) rfl (by kernel_rfl) (by kernel_rfl) (by kernel_rfl) (fun _ _ _ h => h) (Or.inl ⟨by rfl, ?_⟩) (by assumption) ?_
  · intro wq hS
    go_simp
  try simp only [Act.put, List.setIfInBounds_toArray, List.set_cons_zero, List.set_cons_succ]
  refine takeD 3 26 (.pointer (some ⟨lp, 0, none⟩)) (by exact rfl) rfl (by kernel_rfl) (by kernel_rfl) (by kernel_rfl) (fun _ _ _ h => h) (Or.inl ⟨by rfl, ?_⟩) (by assumption) ?_
  · intro wq hS
    go_simp
  try simp only [Act.put, List.setIfInBounds_toArray, List.set_cons_zero, List.set_cons_succ]
  refine takeD 4 27 (.pointer (some ⟨lp, 2, none⟩)) (by exact rfl) rfl (by kernel_rfl) (by kernel_rfl) (by kernel_rfl) (fun _ _ _ h => h) (Or.inl ⟨by rfl, ?_⟩) (by assumption) ?_
  · intro wq hS
    go_simp
  try simp only [Act.put, List.setIfInBounds_toArray, List.set_cons_zero, List.set_cons_succ]
  refine takeD 5 28 (.int .i64 (lo : Int)) (by exact rfl) rfl (by kernel_rfl) (by kernel_rfl) (by kernel_rfl) (fun _ _ _ h => h) (Or.inl ⟨by rfl, ?_⟩) (by assumption) ?_
  · intro wq hS
    have c := hS
    go_simp
  try simp only [Act.put, List.setIfInBounds_toArray, List.set_cons_zero, List.set_cons_succ]
  refine takeD 6 29 (.pointer (some ⟨lp, 0, none⟩)) (by exact rfl) rfl (by kernel_rfl) (by kernel_rfl) (by kernel_rfl) (fun _ _ _ h => h) (Or.inl ⟨by rfl, ?_⟩) (by assumption) ?_
  · intro wq hS
    go_simp
  try simp only [Act.put, List.setIfInBounds_toArray, List.set_cons_zero, List.set_cons_succ]
  refine takeD 7 30 (.pointer (some ⟨lp, 0, none⟩)) (by exact rfl) rfl (by kernel_rfl) (by kernel_rfl) (by kernel_rfl) (fun _ _ _ h => h) (Or.inl ⟨by rfl, ?_⟩) (by assumption) ?_
  · intro wq hS
    go_simp
  try simp only [Act.put, List.setIfInBounds_toArray, List.set_cons_zero, List.set_cons_succ]
  refine takeD 8 31 (.pointer (some ⟨lp, 0, none⟩)) (by exact rfl) rfl (by kernel_rfl) (by kernel_rfl) (by kernel_rfl) (fun _ _ _ h => h) (Or.inl ⟨by rfl, ?_⟩) (by assumption) ?_
  · intro wq hS
    go_simp
  try simp only [Act.put, List.setIfInBounds_toArray, List.set_cons_zero, List.set_cons_succ]
  refine takeD 9 32 (.pointer (some ⟨lp, 2, none⟩)) (by exact rfl) rfl (by kernel_rfl) (by kernel_rfl) (by kernel_rfl) (fun _ _ _ h => h) (Or.inl ⟨by rfl, ?_⟩) (by assumption) ?_
  · intro wq hS
    go_simp
  try simp only [Act.put, List.setIfInBounds_toArray, List.set_cons_zero, List.set_cons_succ]
  refine takeD 10 33 (.int .i64 (lo : Int)) (by exact rfl) rfl (by kernel_rfl) (by kernel_rfl) (by kernel_rfl) (fun _ _ _ h => h) (Or.inl ⟨by rfl, ?_⟩) (by assumption) ?_
  · intro wq hS
    have c := hS
    go_simp
  try simp only [Act.put, List.setIfInBounds_toArray, List.set_cons_zero, List.set_cons_succ]
  refine wpAnyH_ready (rs := [11]) (by kernel_rfl) (by simp) ?_
  refine AllReadyH.cons (by exact rfl) (fun K hK => ?_) AllReadyH.nil
  go_simp
  refine (HFO.out w1 HG0.out).mono ?_
  rintro e w1b ⟨rfl, rfl⟩
  skip
  go_wp2_with fail
  refine hK.out _ _ hHeld (fun hHeld => ?_)
  clear hK K 
  try simp only [Act.put, List.setIfInBounds_toArray, List.set_cons_zero, List.set_cons_succ]
  refine takeD 12 35 (.pointer (some ⟨lp, 0, none⟩)) (by exact rfl) rfl (by kernel_rfl) (by kernel_rfl) (by kernel_rfl) (fun _ _ _ h => h) (Or.inl ⟨by rfl, ?_⟩) (by assumption) ?_
  · intro wq hS
    go_simp
  try simp only [Act.put, List.setIfInBounds_toArray, List.set_cons_zero, List.set_cons_succ]
  refine takeD 13 36 (.pointer (some ⟨lp, 3, none⟩)) (by exact rfl) rfl (by kernel_rfl) (by kernel_rfl) (by kernel_rfl) (fun _ _ _ h => h) (Or.inl ⟨by rfl, ?_⟩) (by assumption) ?_
  · intro wq hS
    go_simp
  try simp only [Act.put, List.setIfInBounds_toArray, List.set_cons_zero, List.set_cons_succ]
  have y3 := HG0.out.cell 3 (v := .int .i64 ((g).high : Int)) rfl
  have f3 := HG0.out.free 3
  have V2 : Lg (w1b.setCell ⟨lp, 3, none⟩ (.int .i64 (lo : Int))) lp p { g with high := lo } := HG0.out.set 3 (.int .i64 (lo : Int))
  have HB2 : Hid (But (fun i => i = lp) w (w1b.setCell ⟨lp, 3, none⟩ (.int .i64 (lo : Int)))) := HB0.out.upd (upd_set w1b lp 3 _)
  have HL2 : Hid ((w1b.setCell ⟨lp, 3, none⟩ (.int .i64 (lo : Int))).cell? ⟨lp, 2, none⟩ = some (.int .i64 (lo : Int))) := V2.cell 2 (v := .int .i64 (lo : Int)) HLOW.out
  have HV2 := (show Hid _ from V2)
  clear V2
  refine wpAnyH_ready (rs := [14]) (by kernel_rfl) (by simp) ?_
  refine AllReadyH.cons (by exact rfl) (fun K hK => ?_) AllReadyH.nil
  go_simp
  refine hK.out _ _ HL2.out (fun hHeld => ?_)
  clear hK K y3 f3
  try simp only [Act.put, List.setIfInBounds_toArray, List.set_cons_zero, List.set_cons_succ]
  generalize w1b.setCell ⟨lp, 3, none⟩ (.int .i64 (lo : Int)) = w2 at *
  refine takeD 15 37 (.pointer (some ⟨lp, 0, none⟩)) (by exact rfl) rfl (by kernel_rfl) (by kernel_rfl) (by kernel_rfl) (fun _ _ _ h => h) (Or.inl ⟨by rfl, ?_⟩) (by assumption) ?_
  · intro wq hS
    go_simp
  try simp only [Act.put, List.setIfInBounds_toArray, List.set_cons_zero, List.set_cons_succ]
  refine takeD 16 38 (.pointer (some ⟨lp, 4, none⟩)) (by exact rfl) rfl (by kernel_rfl) (by kernel_rfl) (by kernel_rfl) (fun _ _ _ h => h) (Or.inl ⟨by rfl, ?_⟩) (by assumption) ?_
  · intro wq hS
    go_simp
  try simp only [Act.put, List.setIfInBounds_toArray, List.set_cons_zero, List.set_cons_succ]
  have y4 := HV2.out.cell 4 (v := .int .i64 ((g).next : Int)) rfl
  have f4 := HV2.out.free 4
  have V3 : Lg (w2.setCell ⟨lp, 4, none⟩ (.int .i64 (fn : Int))) lp p { g with high := lo, next := fn } := HV2.out.set 4 (.int .i64 (fn : Int))
  have HB3 : Hid (But (fun i => i = lp) w (w2.setCell ⟨lp, 4, none⟩ (.int .i64 (fn : Int)))) := HB2.out.upd (upd_set w2 lp 4 _)
  have HL3 : Hid ((w2.setCell ⟨lp, 4, none⟩ (.int .i64 (fn : Int))).cell? ⟨lp, 2, none⟩ = some (.int .i64 (lo : Int))) := V3.cell 2 (v := .int .i64 (lo : Int)) HLOW.out
  have HV3 := (show Hid _ from V3)
  clear V3
  refine wpAnyH_ready (rs := [17]) (by kernel_rfl) (by simp) ?_
  refine AllReadyH.cons (by exact rfl) (fun K hK => ?_) AllReadyH.nil
  go_simp
  refine hK.out _ _ HL3.out (fun hHeld => ?_)
  clear hK K y4 f4
  try simp only [Act.put, List.setIfInBounds_toArray, List.set_cons_zero, List.set_cons_succ]
  generalize w2.setCell ⟨lp, 4, none⟩ (.int .i64 (fn : Int)) = w3 at *
  refine wpAnyH_done (by kernel_rfl) ?_ _
  refine NoPanic.normal ?_
  clear hHeld HB0 HG0 HB2 HL2 HV2 HL3
  go_wp2_with fail
  go_loopw [6, 41] (fun u i wr => u = .slice none 0 0 ∧ i = .int .i64 0 ∧ wr = w3) (fun _ i _ => 0)
  case atStart => exact ⟨rfl, rfl, rfl⟩
  case round =>
    obtain ⟨rfl, rfl, rfl⟩ := hrel
    go_wp2_with fail
    refine bodyPost_ret (v := .tuple #[.slice none 0 0, .int .i64 0]) (by simp [results, Tryz.results38, go_sem, asAddr]) rfl ?_
    rw [← HEQ.out]
    have e := HLE.out
    subst e
    exact ⟨rfl, HV3.out, HB3.out⟩
end Go.Proofs.YtkmdegmpffgplaaGreatDoor
