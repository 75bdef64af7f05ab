/- log XXXVII: goesOn where something is left; discard that cuts. -/
import Derived.Test.YtkmdegmpffgplaaGreatDoorLas
import Derived.Test.YtkmdegmpffgplaaGreatDoorLbf
import Derived.Test.YtkmdegmpffgplaaGreatDoorLbe
import Derived.Test.YtkmdegmpffgplaaGreatDoorLbh
import Derived.Test.YtkmdegmpffgplaaGreatDoorLbk
import Derived.Test.YtkmdegmpffgplaaGreatDoorLbm
import Derived.Test.YtkmdegmpffgplaaGreatDoorLbn
namespace Go.Proofs.YtkmdegmpffgplaaGreatDoor
open Go.RowKit Go.Maps Go.Sort Go.Shelf pk
set_option linter.unusedVariables false
set_option linter.unusedSimpArgs false
/-- all but answers are as they were -/
structure KeE (w w' : World) : Prop where
  os : w'.os = w.os
  tape : w'.tape = w.tape
  output : w'.output = w.output
  size : w.heap.size ≤ w'.heap.size
  blk : ∀ (i : Nat) (o : Obj), w.heap[i]? = some o → (∀ cs z, o ≠ .cells cs 24 z) → w'.heap[i]? = some o
theorem VA.kee2 {w w' : World} {q : Nat} {cs : List Value} {T : TypeId} (h : VA w q cs T) (k : KeE w w') (hT : T ≠ 24) : VA w' q cs T := ⟨k.blk _ _ h.blk (fun _ _ e => by cases e; exact hT rfl)⟩
theorem DA.kee2 {w w' : World} {B p m : Nat} {x : AD} (h : DA w B p m x) (k : KeE w w') : DA w' B p m x := by
  obtain ⟨es, u, hD, hab, hu, hun⟩ := h
  refine ⟨es, u, ⟨hD.va.kee2 k (by decide), hD.mp.blk ?_, fun e he => ?_, hD.ap, hD.lo, hD.fits⟩, hab, ?_, hun⟩
  · obtain ⟨ms, c, hm⟩ := map_blk hD.mp
    exact (k.blk _ _ hm (fun _ _ e => by cases e)).trans hm.symm
  · have f := hD.fil e he
    refine ⟨f.blk.kee2 k (by decide), f.row.blk (fun g hg => ?_), f.lo, f.sy, f.byte, f.nm⟩
    obtain ⟨cs, hc⟩ := row_blk f.row hg
    exact (k.blk _ _ hc (fun _ _ e => by cases e)).trans hc.symm
  · cases hq : x.und with
    | none => rw [hq] at hu; exact hu
    | some o =>
      rw [hq] at hu
      rcases hu with ⟨h1, Bf, e, h2, h3, h4⟩ | ⟨h1, hn, Bf, Bn, e, h2, h3, h4, h5⟩ | ⟨h1, hn, Bd, Ba, Bf, Bb, e, h2, h3, h4, h5, h6, h7⟩ | ⟨h1, Bd, Ba, e, h2, h3, h4, h5⟩
      · exact .inl ⟨h1, Bf, e, h2, h3, h4.kee2 k (by decide)⟩
      · exact .inr (.inl ⟨h1, hn, Bf, Bn, e, h2, h3, h4.kee2 k (by decide), h5.kee2 k (by decide)⟩)
      · exact .inr (.inr (.inr ⟨h1, Bd, Ba, e, h2, h3, h4.kee2 k (by decide), h5.kee2 k (by decide)⟩))
attribute [local go_sem] Oper.semAt_some ext_cell ext_frozen ext_drew ext_of_drew ext_of_drewN ext_setCell ext_lt ext_lt1 ext_lt2 ext_lt3 lt_n2 lt_n3 lt_n4 lt_n5 lt_n6
set_option maxRecDepth 100000 in
set_option maxHeartbeats 4000000 in
theorem discard_cut (w : World) (B p m lp : Nat) (x : AD) (g : LG) (h : DA w B p m x) (hg : Lg w lp p g) (hT : PtB B w) (hhi : g.high ≤ 99999999) (kept : Nat) (hk : kept ≤ 9223372036854775807) (ra : Option Addr) (rn rc : Nat) (hr : 0 < rn) (ja : Option Addr) (jc : Nat) (hjc : jc ≤ 9223372036854775807) (ho : x.ops ≤ 4611686018427387904) (hlf : x.left ≤ 9223372036854775807) :
    Calls Tryz.prog 75 #[.pointer (some ⟨lp, 0, none⟩), .int .i64 (kept : Int), .slice ra rn rc, .slice ja 0 jc] w fun e w' => e = .returned (.int .i64 ((oper x ⟨2, nmS g.high, [], kept⟩).1 : Nat)) ∧ DA w' B p m (oper x ⟨2, nmS g.high, [], kept⟩).2 ∧ Lg w' lp p g ∧ Kel w w' ∧ Below B w w' := by
  have b1 := (Below.refl w.heap.size w).alloc (Nat.le_refl _) (.cells #[.pointer (some ⟨lp, 0, none⟩)] 23)
  have b2 := b1.alloc b1.size (.cells #[.int .i64 0] 24)
  have v1 := (va_new w [.pointer (some ⟨lp, 0, none⟩)] 23).alloc (.cells #[.int .i64 0] 24)
  have v2 := va_new (w.alloc (.cells #[.pointer (some ⟨lp, 0, none⟩)] 23)) [.int .i64 0] 24
  simp only [World.size_alloc] at v2
  have HB2 := (show Hid _ from b2)
  have HV1 := (show Hid _ from v1)
  have HV2 := (show Hid _ from v2)
  have HA : Hid (DA _ B p m x) := h.step b2
  have HG : Hid (Lg _ lp p g) := hg.step b2
  have HPT : Hid (PtB B _) := hT.on (b2.mono h.lt)
  have HLT : Hid (B ≤ w.heap.size) := h.lt
  have HX : Hid (x.ops ≤ 4611686018427387904 ∧ x.left ≤ 9223372036854775807 ∧ kept ≤ 9223372036854775807) := ⟨ho, hlf, hk⟩
  obtain ⟨hi, hhi2⟩ : ∃ hi, hi = g.high := ⟨_, rfl⟩
  have HHI : Hid (hi = g.high) := hhi2
  rw [← hhi2] at hhi ⊢
  clear b1 b2 v1 v2 h hg hT ho hlf hhi2
  refine (callsIn_wide (n := 8)).1 ?_
  have hF : ∀ f, Fence.wide.fn f := fun _ => trivial
  have hF1 := hF 98
  refine callsIn_of_wp_marks Tryz.func75 rfl trivial ?_ rfl
  simp only [Tryz.ntmps75, List.size_toArray, List.length_cons, List.length_nil, Nat.reduceAdd, Nat.reduceSub, Array.replicate_succ, Array.replicate_zero, List.push_toArray, List.append_toArray, List.nil_append, List.cons_append]
  gi_wp2
  obtain ⟨q, hq⟩ : ∃ q, q = w.heap.size := ⟨_, rfl⟩
  rw [← hq] at HV1 HV2 ⊢
  have HQ : Hid (q = w.heap.size) := hq
  clear hq
  generalize (w.alloc (.cells #[.pointer (some ⟨lp, 0, none⟩)] 23)).alloc (.cells #[.int .i64 0] 24) = w0 at *
  refine region_plain_held (S := fun V => VA V q [.pointer (some ⟨lp, 0, none⟩)] 23 ∧ Lg V lp p g) (by kernel_rfl) (by kernel_rfl) (fun h => by obtain ⟨_, _, e, _⟩ := h; cases e) ⟨VA.drew HV1.out, VA.drew HG.out⟩ ?_
  intro hHeld
  have HB3 : Hid (Below w.heap.size w w0.drew) := HB2.out.drew
  have HV3 : Hid (VA w0.drew (q + 1) [.int .i64 0] 24) := VA.drew HV2.out
  have HD3 : Hid (Below w0.heap.size w0 w0.drew) := (Below.refl _ _).drew
  have HA3 : Hid (DA w0.drew B p m x) := HA.out.step HD3.out
  have HP3 : Hid (PtB B w0.drew) := HPT.out.on (HD3.out.mono HA.out.lt)
  clear HB2 HV1 HV2 HA HG HPT HD3
  generalize w0.drew = w1 at *
  refine takeD 0 16 (.pointer (some ⟨lp, 0, none⟩)) (by exact rfl) rfl (by kernel_rfl) (by kernel_rfl) (by kernel_rfl) (fun _ _ _ h => h) (Or.inl ⟨by rfl, ?_⟩) (by assumption) ?_
  · intro wq hS
    have cc := hS.1.cell 0 (v := .pointer (some ⟨lp, 0, none⟩)) rfl
    go_simp
  try simp only [Act.put, List.setIfInBounds_toArray, List.set_cons_zero, List.set_cons_succ]
  refine takeD 1 17 (.pointer (some ⟨lp, 0, none⟩)) (by exact rfl) rfl (by kernel_rfl) (by kernel_rfl) (by kernel_rfl) (fun _ _ _ h => h) (Or.inl ⟨by rfl, ?_⟩) (by assumption) ?_
  · intro wq hS
    go_simp
  try simp only [Act.put, List.setIfInBounds_toArray, List.set_cons_zero, List.set_cons_succ]
  refine takeD 2 18 (.pointer (some ⟨lp, 0, none⟩)) (by exact rfl) rfl (by kernel_rfl) (by kernel_rfl) (by kernel_rfl) (fun _ _ _ h => h) (Or.inl ⟨by rfl, ?_⟩) (by assumption) ?_
  · intro wq hS
    go_simp
  try simp only [Act.put, List.setIfInBounds_toArray, List.set_cons_zero, List.set_cons_succ]
  refine takeD 3 19 (.pointer (some ⟨p, 0, none⟩)) (by exact rfl) rfl (by kernel_rfl) (by kernel_rfl) (by kernel_rfl) (fun _ _ _ h => h) (Or.inl ⟨by rfl, ?_⟩) (by assumption) ?_
  · intro wq hS
    have cc := hS.2.cell 0 (v := .pointer (some ⟨p, 0, none⟩)) rfl
    go_simp
  try simp only [Act.put, List.setIfInBounds_toArray, List.set_cons_zero, List.set_cons_succ]
  refine takeD 4 20 (.pointer (some ⟨lp, 0, none⟩)) (by exact rfl) rfl (by kernel_rfl) (by kernel_rfl) (by kernel_rfl) (fun _ _ _ h => h) (Or.inl ⟨by rfl, ?_⟩) (by assumption) ?_
  · intro wq hS
    have cc := hS.1.cell 0 (v := .pointer (some ⟨lp, 0, none⟩)) rfl
    go_simp
  try simp only [Act.put, List.setIfInBounds_toArray, List.set_cons_zero, List.set_cons_succ]
  refine takeD 5 21 (.pointer (some ⟨lp, 0, none⟩)) (by exact rfl) rfl (by kernel_rfl) (by kernel_rfl) (by kernel_rfl) (fun _ _ _ h => h) (Or.inl ⟨by rfl, ?_⟩) (by assumption) ?_
  · intro wq hS
    go_simp
  try simp only [Act.put, List.setIfInBounds_toArray, List.set_cons_zero, List.set_cons_succ]
  refine takeD 6 22 (.pointer (some ⟨lp, 3, none⟩)) (by exact rfl) rfl (by kernel_rfl) (by kernel_rfl) (by kernel_rfl) (fun _ _ _ h => h) (Or.inl ⟨by rfl, ?_⟩) (by assumption) ?_
  · intro wq hS
    go_simp
  try simp only [Act.put, List.setIfInBounds_toArray, List.set_cons_zero, List.set_cons_succ]
  refine takeD 7 23 (.int .i64 (hi : Int)) (by exact rfl) rfl (by kernel_rfl) (by kernel_rfl) (by kernel_rfl) (fun _ _ _ h => h) (Or.inl ⟨by rfl, ?_⟩) (by assumption) ?_
  · intro wq hS
    have cc := hS.2.cell 3 (v := .int .i64 (hi : Int)) (by rw [HHI.out]; rfl)
    go_simp
  try simp only [Act.put, List.setIfInBounds_toArray, List.set_cons_zero, List.set_cons_succ]
  refine takeD 9 25 (.int .i64 (kept : Int)) (by exact rfl) rfl (by kernel_rfl) (by kernel_rfl) (by kernel_rfl) (fun _ _ _ h => h) (Or.inl ⟨by rfl, ?_⟩) (by assumption) ?_
  · intro wq hS
    go_simp
  try simp only [Act.put, List.setIfInBounds_toArray, List.set_cons_zero, List.set_cons_succ]
  refine wpAnyH_ready (rs := [8]) (by kernel_rfl) (by simp) ?_
  refine AllReadyH.cons (by exact rfl) (fun K hK => ?_) AllReadyH.nil
  go_simp
  refine (sname_ok hi w1 (by omega) HP3.out.pt).mono ?_
  rintro e w2 ⟨rfl, b2⟩
  have HB4 : Hid (Below w.heap.size w w2) := HB3.out.trans (b2.mono HB3.out.size)
  have HV4 := (show Hid _ from HV3.out.step b2)
  have HS4 : Hid (VA w2 q [.pointer (some ⟨lp, 0, none⟩)] 23 ∧ Lg w2 lp p g) := ⟨hHeld.1.step b2, hHeld.2.step b2⟩
  have HA4 : Hid (DA w2 B p m x) := DA.step HA3.out b2
  go_wp2_with fail
  refine hK.out _ _ HS4.out (fun hHeld => ?_)
  clear hK K b2 HB3 HV3 HA3 HP3
  try simp only [Act.put, List.setIfInBounds_toArray, List.set_cons_zero, List.set_cons_succ]
  refine wpAnyH_ready (rs := [10]) (by kernel_rfl) (by simp) ?_
  refine AllReadyH.cons (by exact rfl) (fun K hK => ?_) AllReadyH.nil
  go_simp
  refine (trunc_any w2 B p m x HA4.out ⟨(nmS hi).toArray⟩ (by show (nmS hi).toArray.size ≤ _; simp [nmS_len]) kept HX.out.2.2 HX.out.1 HX.out.2.1).mono ?_
  rintro e w3 ⟨rfl, h3, k3, bB3⟩
  rw [show (⟨(nmS hi).toArray⟩ : ByteArray).data.toList = nmS hi from rfl] at h3 ⊢
  have HA5 : Hid (DA w3 B p m (oper x ⟨2, nmS hi, [], kept⟩).2) := h3
  have HS5 : Hid (VA w3 q [.pointer (some ⟨lp, 0, none⟩)] 23 ∧ Lg w3 lp p g) := ⟨VA.kee HS4.out.1 k3 (by unfold Dt; decide), Lg.kee HS4.out.2 k3⟩
  have HV5 : Hid (VA w3 (q + 1) [.int .i64 0] 24) := VA.kee HV4.out k3 (by unfold Dt; decide)
  have HK5 : Hid (Kel w w3) := (Kee.kel (Kee.bel HB4.out)).trans (Kee.kel k3)
  have HW5 : Hid (Below B w w3) := (HB4.out.mono HLT.out).trans bB3
  obtain ⟨cd, hcd⟩ : ∃ cd, cd = (oper x ⟨2, nmS hi, [], kept⟩).1 := ⟨_, rfl⟩
  have HCD : Hid (cd = (oper x ⟨2, nmS hi, [], kept⟩).1) := hcd
  have hcd18 : cd ≤ 18 := by rw [hcd]; exact oper_le _ _
  rw [← hcd]
  clear hcd h3 k3 bB3
  go_wp2_with fail
  refine hK.out _ _ HS5.out (fun hHeld => ?_)
  clear hK K HB4 HV4 HS4 HA4
  try simp only [Act.put, List.setIfInBounds_toArray, List.set_cons_zero, List.set_cons_succ]
  refine takeD 11 9 (.int .i64 (cd : Int)) (by exact rfl) rfl (by kernel_rfl) (by kernel_rfl) (by kernel_rfl) (fun _ _ _ h => h) (Or.inl ⟨by rfl, ?_⟩) (by assumption) ?_
  · intro wq hS
    go_simp
  try simp only [Act.put, List.setIfInBounds_toArray, List.set_cons_zero, List.set_cons_succ]
  refine wpAnyH_done (by kernel_rfl) ?_ _
  refine NoPanic.normal ?_
  clear hHeld
  have HL5 : Hid (Lg w3 lp p g) := HS5.out.2
  have HQ5 : Hid (q + 1 < w3.heap.size ∧ w.heap.size ≤ w3.heap.size) := ⟨HV5.out.lt, HK5.out.size⟩
  clear HS5
  have REST : Hid (∀ (W : World), But (fun i => i = q + 1) w3 W → DA W B p m (oper x ⟨2, nmS hi, [], kept⟩).2 ∧ Lg W lp p g ∧ Kel w W ∧ Below B w W) := (fun W bt => by
    have kk : KeE w3 W := ⟨bt.os, bt.tape, bt.output, bt.size, fun i o e hn => (bt.block i (hlt_of e) (fun hi => by
      have h1 : i = q + 1 := hi
      rw [h1, HV5.out.blk] at e
      cases e
      exact hn _ _ rfl)).trans e⟩
    have bw : Below w.heap.size w3 W := bt.below HQ5.out.2 (fun i hi => by have h1 : i = q + 1 := hi; have := HQ.out; omega)
    refine ⟨DA.kee2 HA5.out kk, VA.kee2 HL5.out kk (by decide), ⟨Nat.le_trans HK5.out.size kk.size, fun i cs T z e h1 h2 => ?_⟩, HW5.out.trans (bw.mono HLT.out)⟩
    have e3 := HK5.out.blk i cs T z e h1 h2
    refine (bt.block i (hlt_of e3) (fun hi => ?_)).trans e3
    have h3 : i = q + 1 := hi
    have h4 := hlt_of e
    have := HQ.out
    omega)
  by_cases h0 : cd = 0
  · subst h0
    have HC0 : Hid (0 = (oper x ⟨2, nmS hi, [], kept⟩).1) := HCD.out
    gi_wp2
    have endA : ∀ {W : World}, But (fun i => i = q + 1) w3 W → (Ending.returned (.int .i64 0) : Ending) = Ending.returned (.int .i64 ((oper x ⟨2, nmS hi, [], kept⟩).1 : Nat)) ∧ DA W B p m (oper x ⟨2, nmS hi, [], kept⟩).2 ∧ Lg W lp p g ∧ Kel w W ∧ Below B w W := fun {W} bt => by
      rw [← HC0.out]
      exact ⟨rfl, REST.out _ bt⟩
    refine CallsIn.mono (back_in Fence.wide 7 trivial rfl _ _ _ _) ?_
    rintro e w' ⟨rfl, rfl⟩
    have HV6 : Hid (VA (w3.alloc (.cells #[.slice ja 0 jc] 47)) (q + 1) [.int .i64 0] 24) := HV5.out.alloc _
    have HJ6 : Hid (VA (w3.alloc (.cells #[.slice ja 0 jc] 47)) w3.heap.size [.slice ja 0 jc] 47) := va_new w3 _ _
    have HB6 : Hid (Below w3.heap.size w3 (w3.alloc (.cells #[.slice ja 0 jc] 47))) := (Below.refl _ _).alloc (Nat.le_refl _) _
    obtain ⟨jb, hjb⟩ : ∃ jb, jb = w3.heap.size := ⟨_, rfl⟩
    have HJB : Hid (jb = w3.heap.size) := hjb
    rw [← hjb] at HJ6 ⊢
    clear hjb
    generalize w3.alloc (.cells #[.slice ja 0 jc] 47) = W6 at *
    gi_wp2
    refine wpIn_rangeFunc_ownH rfl (by omega) (gf := 115) (lb := #[.pointer (some ⟨jb, 0, none⟩)]) rfl trivial (enters_of Tryz.func115 (by kernel_rfl) rfl)
      (back_stops Fence.wide (8 - 1) trivial rfl (by omega) (jb) W6.heap.size jc 0 ja (P := fun _ => True) [] 0 (fun _ => trivial) rfl (by omega) W6 HJ6.out.lt (Nat.le_refl _) (HJ6.out.cell 0 rfl) ⟨by omega, hjc⟩ (fun h => absurd h (by omega))) belowK_t (belowK_b (Nat.le_refl _)) (Below.refl _ _) (fun _ => rfl)
      (fun pre W => VA W (q + 1) [.int .i64 0] 24 ∧ Below w3.heap.size w3 W)
      (fun c pre W => False)
      (OwnFrom.and (Own.from (fun s X Y row hs hg hr => hs.kee (kee_grown hg hr) (by unfold Dt; decide)) _) (ownFrom_below (Nat.le_refl _) (HB6.out.size)))
      (fun _ _ _ _ _ h _ _ => h)
      ⟨HV6.out, HB6.out⟩
      (fun y a' W => True)
      (fun y a' _ X Y row hs hg hr => trivial)
      ?assign ?body ?done ?stop
    case assign =>
      rintro l pre y W K ⟨hc, hB⟩ hK
      obtain ⟨⟨y1, y2⟩, hy⟩ := y
      have HCC := (show Hid _ from hc)
      unfold encK
      dsimp only
      clear hc
      gi_wp2
      exact hK _ _ (KeepsFrom.refl _ _) (Below.refl _ _) ⟨HCC.out, hB⟩ trivial
    case body =>
      rintro l pre y a' W hl' ⟨r, hr⟩ ⟨hc, hB⟩ _ hlt
      exact absurd hlt (Nat.not_lt_zero _)
    case done =>
      rintro D ys W hD hys ⟨hc, hB⟩ hK
      have HK := (show Hid _ from hK)
      have HCC := (show Hid _ from hc)
      have FB := (show Hid _ from hB)
      clear hc hB hK hys
      have y1 := HCC.out.cell 0 (v := .int .i64 0) rfl
      have f1 := HCC.out.free 0
      gi_wp2
      clear y1 f1
      have V1 := HCC.out.set 0 (.int .i64 0)
      have U1 := upd_set W (q + 1) 0 (.int .i64 0)
      have kk := keeps_upd HCC.out U1
      have hK' := kk.same D _ HK.out rfl
      have bt : But (fun i => i = q + 1) w3 (W.setCell ⟨q + 1, 0, none⟩ (.int .i64 0)) := (below_but FB.out _).trans U1.but (fun _ _ h => h)
      have HBT := (show Hid _ from bt)
      have HFS := (show Hid _ from FB.out.size)
      generalize W.setCell ⟨q + 1, 0, none⟩ (.int .i64 0) = W9 at *
      clear U1 kk bt
      refine ⟨by simp, .inl ⟨_, _, rfl, run_takeDeferred hK', ?_⟩⟩
      have kg := kee_grown (grownBy_putObj' W9 D (.deferred none)) (fun r e => by cases e; exact ⟨_, hK', rfl⟩)
      have z1 := (V1.kee kg (by unfold Dt; decide)).cell 0 (v := .int .i64 0) rfl
      have hDW : w3.heap.size ≤ D := Nat.le_trans HB6.out.size hD
      have bg : But (fun i => i = q + 1) w3 (W9.putObj D (.deferred none)) := HBT.out.trans (⟨(grownBy_putObj' W9 D (.deferred none)).os, (grownBy_putObj' W9 D (.deferred none)).tape, (grownBy_putObj' W9 D (.deferred none)).output, (grownBy_putObj' W9 D (.deferred none)).size, fun i hi hx => (grownBy_putObj' W9 D (.deferred none)).block i hi (fun e => hx (by cases e; rfl))⟩ : But (fun i => i = D) W9 (W9.putObj D (.deferred none))) (fun i hi h => absurd hi (by have h1 : i = D := h; omega))
      have kl : Kel w3 (W9.putObj D (.deferred none)) → True := fun _ => trivial
      refine ⟨.int .i64 0, ?_, ?_⟩
      · simp [results, Tryz.results75, go_sem, asAddr, z1]
      · exact endA bg
    case stop =>
      rintro D c pre V _ _ h _
      exact h.elim
  · have hz1 : ((cd : Int) == 0) = false := by simp; omega
    have hz2 : ((cd : Int) != 0) = true := by simp; omega
    have hz3 : ((cd : Int) = 0) = False := by simp; omega
    have y1 := HV5.out.cell 0 (v := .int .i64 0) rfl
    have f1 := HV5.out.free 0
    gi_wp2
    have U1 := upd_set w3 (q + 1) 0 (.int .i64 (cd : Int))
    have V1 := HV5.out.set 0 (.int .i64 (cd : Int))
    have bt : But (fun i => i = q + 1) w3 (w3.setCell ⟨q + 1, 0, none⟩ (.int .i64 (cd : Int))) := U1.but
    have hfin := REST.out _ bt
    generalize w3.setCell ⟨q + 1, 0, none⟩ (.int .i64 (cd : Int)) = W9 at *
    have z1 := V1.cell 0 (v := .int .i64 (cd : Int)) rfl
    refine ⟨.int .i64 (cd : Int), ?_, ?_⟩
    · simp [results, Tryz.results75, go_sem, asAddr, z1]
    · exact ⟨by rw [HCD.out], hfin⟩
end Go.Proofs.YtkmdegmpffgplaaGreatDoor
/- log XXXVIII: goesOn where something is left; read of a log behind whose last record something stands. -/
namespace Go.Proofs.YtkmdegmpffgplaaGreatDoor
open Go.RowKit Go.Maps Go.Sort Go.Shelf pk
set_option linter.unusedVariables false
set_option linter.unusedSimpArgs false
/-- what cutting leaves: nothing where nothing is left -/
def dcut (x : AD) (hi kp : Nat) (T : List Nat) : Nat × AD := if T = [] then (0, x) else oper x ⟨2, nmS hi, [], kp⟩
theorem dcut_nil {x : AD} {hi kp : Nat} {T : List Nat} (h : T = []) : dcut x hi kp T = (0, x) := by unfold dcut; rw [if_pos h]
theorem dcut_some {x : AD} {hi kp : Nat} {T : List Nat} (h : T ≠ []) : dcut x hi kp T = oper x ⟨2, nmS hi, [], kp⟩ := by unfold dcut; rw [if_neg h]
set_option maxRecDepth 100000 in
set_option maxHeartbeats 1000000 in
theorem goesOn_no0 (w : World) (lp : Nat) (ra : Option Addr) (rn rc : Nat) (hr : 0 < rn) (hr2 : rn ≤ 9223372036854775807) (ja : Option Addr) (jc : Nat) :
    Calls Tryz.prog 74 #[.pointer (some ⟨lp, 0, none⟩), .slice ra rn rc, .slice ja 0 jc] w fun e w' => e = .returned (.bool false) ∧ Below w.heap.size w w' := by
  have hz1 : ((rn : Int) == 0) = false := by simp; omega
  have hz2 : ((rn : Int) = 0) = False := by simp; omega
  go_enter Tryz.func74, Tryz.ntmps74
  go_upto_region 1 with fail
  refine wp_region_noPanic ?_
  refine wp_region_held_drew (S := fun V => True) (by kernel_rfl) trivial ?_
  intro hHeld
  have HD : Hid (Below w.heap.size w w.drew) := (Below.refl _ _).drew
  generalize w.drew = w1 at *
  refine takeD 0 7 (.slice ra rn rc) (by exact rfl) rfl (by kernel_rfl) (by kernel_rfl) (by kernel_rfl) (fun _ _ _ h => h) (Or.inl ⟨by rfl, ?_⟩) (by assumption) ?_
  · intro wq hS
    go_simp
  try simp only [Act.put, List.setIfInBounds_toArray, List.set_cons_zero, List.set_cons_succ]
  refine takeD 1 8 (.int .i64 (rn : Int)) (by exact rfl) rfl (by kernel_rfl) (by kernel_rfl) (by kernel_rfl) (fun _ _ _ h => h) (Or.inl ⟨by rfl, ?_⟩) (by assumption) ?_
  · intro wq hS
    go_simp
  try simp only [Act.put, List.setIfInBounds_toArray, List.set_cons_zero, List.set_cons_succ]
  refine takeD 2 9 (.bool false) (by exact rfl) rfl (by kernel_rfl) (by kernel_rfl) (by kernel_rfl) (fun _ _ _ h => h) (Or.inl ⟨by rfl, ?_⟩) (by assumption) ?_
  · intro wq hS
    go_simp
  try simp only [Act.put, List.setIfInBounds_toArray, List.set_cons_zero, List.set_cons_succ]
  refine takeD 3 10 (.bool false) (by exact rfl) rfl (by kernel_rfl) (by kernel_rfl) (by kernel_rfl) (fun _ _ _ h => h) (Or.inl ⟨by rfl, ?_⟩) (by assumption) ?_
  · intro wq hS
    go_simp
  try simp only [Act.put, List.setIfInBounds_toArray, List.set_cons_zero, List.set_cons_succ]
  refine takeD 4 11 undef (by exact rfl) rfl (by kernel_rfl) (by kernel_rfl) (by kernel_rfl) (fun _ _ _ h => h) (Or.inr ⟨by rfl, rfl⟩) (by assumption) ?_
  try simp only [Act.put, List.setIfInBounds_toArray, List.set_cons_zero, List.set_cons_succ]
  refine takeD 5 12 undef (by exact rfl) rfl (by kernel_rfl) (by kernel_rfl) (by kernel_rfl) (fun _ _ _ h => h) (Or.inr ⟨by rfl, rfl⟩) (by assumption) ?_
  try simp only [Act.put, List.setIfInBounds_toArray, List.set_cons_zero, List.set_cons_succ]
  refine takeD 6 13 undef (by exact rfl) rfl (by kernel_rfl) (by kernel_rfl) (by kernel_rfl) (fun _ _ _ h => h) (Or.inr ⟨by rfl, rfl⟩) (by assumption) ?_
  try simp only [Act.put, List.setIfInBounds_toArray, List.set_cons_zero, List.set_cons_succ]
  refine takeD 7 14 undef (by exact rfl) rfl (by kernel_rfl) (by kernel_rfl) (by kernel_rfl) (fun _ _ _ h => h) (Or.inr ⟨by rfl, rfl⟩) (by assumption) ?_
  try simp only [Act.put, List.setIfInBounds_toArray, List.set_cons_zero, List.set_cons_succ]
  refine takeD 8 15 undef (by exact rfl) rfl (by kernel_rfl) (by kernel_rfl) (by kernel_rfl) (fun _ _ _ h => h) (Or.inr ⟨by rfl, rfl⟩) (by assumption) ?_
  try simp only [Act.put, List.setIfInBounds_toArray, List.set_cons_zero, List.set_cons_succ]
  refine takeD 9 16 undef (by exact rfl) rfl (by kernel_rfl) (by kernel_rfl) (by kernel_rfl) (fun _ _ _ h => h) (Or.inr ⟨by rfl, rfl⟩) (by assumption) ?_
  try simp only [Act.put, List.setIfInBounds_toArray, List.set_cons_zero, List.set_cons_succ]
  refine takeD 10 17 undef (by exact rfl) rfl (by kernel_rfl) (by kernel_rfl) (by kernel_rfl) (fun _ _ _ h => h) (Or.inr ⟨by rfl, rfl⟩) (by assumption) ?_
  try simp only [Act.put, List.setIfInBounds_toArray, List.set_cons_zero, List.set_cons_succ]
  refine takeD 11 18 undef (by exact rfl) rfl (by kernel_rfl) (by kernel_rfl) (by kernel_rfl) (fun _ _ _ h => h) (Or.inr ⟨by rfl, rfl⟩) (by assumption) ?_
  try simp only [Act.put, List.setIfInBounds_toArray, List.set_cons_zero, List.set_cons_succ]
  refine takeD 12 19 undef (by exact rfl) rfl (by kernel_rfl) (by kernel_rfl) (by kernel_rfl) (fun _ _ _ h => h) (Or.inr ⟨by rfl, rfl⟩) (by assumption) ?_
  try simp only [Act.put, List.setIfInBounds_toArray, List.set_cons_zero, List.set_cons_succ]
  refine takeD 13 20 undef (by exact rfl) rfl (by kernel_rfl) (by kernel_rfl) (by kernel_rfl) (fun _ _ _ h => h) (Or.inr ⟨by rfl, rfl⟩) (by assumption) ?_
  try simp only [Act.put, List.setIfInBounds_toArray, List.set_cons_zero, List.set_cons_succ]
  refine takeD 14 21 undef (by exact rfl) rfl (by kernel_rfl) (by kernel_rfl) (by kernel_rfl) (fun _ _ _ h => h) (Or.inr ⟨by rfl, rfl⟩) (by assumption) ?_
  try simp only [Act.put, List.setIfInBounds_toArray, List.set_cons_zero, List.set_cons_succ]
  refine takeD 15 22 (.bool false) (by exact rfl) rfl (by kernel_rfl) (by kernel_rfl) (by kernel_rfl) (fun _ _ _ h => h) (Or.inl ⟨by rfl, ?_⟩) (by assumption) ?_
  · intro wq hS
    go_simp
  try simp only [Act.put, List.setIfInBounds_toArray, List.set_cons_zero, List.set_cons_succ]
  refine takeD 16 23 (.bool false) (by exact rfl) rfl (by kernel_rfl) (by kernel_rfl) (by kernel_rfl) (fun _ _ _ h => h) (Or.inl ⟨by rfl, ?_⟩) (by assumption) ?_
  · intro wq hS
    go_simp
  try simp only [Act.put, List.setIfInBounds_toArray, List.set_cons_zero, List.set_cons_succ]
  refine takeD 17 24 undef (by exact rfl) rfl (by kernel_rfl) (by kernel_rfl) (by kernel_rfl) (fun _ _ _ h => h) (Or.inr ⟨by rfl, rfl⟩) (by assumption) ?_
  try simp only [Act.put, List.setIfInBounds_toArray, List.set_cons_zero, List.set_cons_succ]
  refine takeD 18 25 undef (by exact rfl) rfl (by kernel_rfl) (by kernel_rfl) (by kernel_rfl) (fun _ _ _ h => h) (Or.inr ⟨by rfl, rfl⟩) (by assumption) ?_
  try simp only [Act.put, List.setIfInBounds_toArray, List.set_cons_zero, List.set_cons_succ]
  refine takeD 19 26 undef (by exact rfl) rfl (by kernel_rfl) (by kernel_rfl) (by kernel_rfl) (fun _ _ _ h => h) (Or.inr ⟨by rfl, rfl⟩) (by assumption) ?_
  try simp only [Act.put, List.setIfInBounds_toArray, List.set_cons_zero, List.set_cons_succ]
  refine takeD 20 27 (.bool false) (by exact rfl) rfl (by kernel_rfl) (by kernel_rfl) (by kernel_rfl) (fun _ _ _ h => h) (Or.inl ⟨by rfl, ?_⟩) (by assumption) ?_
  · intro wq hS
    go_simp
  try simp only [Act.put, List.setIfInBounds_toArray, List.set_cons_zero, List.set_cons_succ]
  refine takeD 21 28 (.bool false) (by exact rfl) rfl (by kernel_rfl) (by kernel_rfl) (by kernel_rfl) (fun _ _ _ h => h) (Or.inl ⟨by rfl, ?_⟩) (by assumption) ?_
  · intro wq hS
    go_simp
  try simp only [Act.put, List.setIfInBounds_toArray, List.set_cons_zero, List.set_cons_succ]
  refine takeD 22 29 undef (by exact rfl) rfl (by kernel_rfl) (by kernel_rfl) (by kernel_rfl) (fun _ _ _ h => h) (Or.inr ⟨by rfl, rfl⟩) (by assumption) ?_
  try simp only [Act.put, List.setIfInBounds_toArray, List.set_cons_zero, List.set_cons_succ]
  refine takeD 23 30 undef (by exact rfl) rfl (by kernel_rfl) (by kernel_rfl) (by kernel_rfl) (fun _ _ _ h => h) (Or.inr ⟨by rfl, rfl⟩) (by assumption) ?_
  try simp only [Act.put, List.setIfInBounds_toArray, List.set_cons_zero, List.set_cons_succ]
  refine takeD 24 31 undef (by exact rfl) rfl (by kernel_rfl) (by kernel_rfl) (by kernel_rfl) (fun _ _ _ h => h) (Or.inr ⟨by rfl, rfl⟩) (by assumption) ?_
  try simp only [Act.put, List.setIfInBounds_toArray, List.set_cons_zero, List.set_cons_succ]
  refine takeD 25 32 undef (by exact rfl) rfl (by kernel_rfl) (by kernel_rfl) (by kernel_rfl) (fun _ _ _ h => h) (Or.inr ⟨by rfl, rfl⟩) (by assumption) ?_
  try simp only [Act.put, List.setIfInBounds_toArray, List.set_cons_zero, List.set_cons_succ]
  refine takeD 26 33 undef (by exact rfl) rfl (by kernel_rfl) (by kernel_rfl) (by kernel_rfl) (fun _ _ _ h => h) (Or.inr ⟨by rfl, rfl⟩) (by assumption) ?_
  try simp only [Act.put, List.setIfInBounds_toArray, List.set_cons_zero, List.set_cons_succ]
  refine takeD 27 34 undef (by exact rfl) rfl (by kernel_rfl) (by kernel_rfl) (by kernel_rfl) (fun _ _ _ h => h) (Or.inr ⟨by rfl, rfl⟩) (by assumption) ?_
  try simp only [Act.put, List.setIfInBounds_toArray, List.set_cons_zero, List.set_cons_succ]
  refine takeD 28 35 undef (by exact rfl) rfl (by kernel_rfl) (by kernel_rfl) (by kernel_rfl) (fun _ _ _ h => h) (Or.inr ⟨by rfl, rfl⟩) (by assumption) ?_
  try simp only [Act.put, List.setIfInBounds_toArray, List.set_cons_zero, List.set_cons_succ]
  refine takeD 29 36 undef (by exact rfl) rfl (by kernel_rfl) (by kernel_rfl) (by kernel_rfl) (fun _ _ _ h => h) (Or.inr ⟨by rfl, rfl⟩) (by assumption) ?_
  try simp only [Act.put, List.setIfInBounds_toArray, List.set_cons_zero, List.set_cons_succ]
  refine takeD 30 37 undef (by exact rfl) rfl (by kernel_rfl) (by kernel_rfl) (by kernel_rfl) (fun _ _ _ h => h) (Or.inr ⟨by rfl, rfl⟩) (by assumption) ?_
  try simp only [Act.put, List.setIfInBounds_toArray, List.set_cons_zero, List.set_cons_succ]
  refine takeD 31 38 (.bool false) (by exact rfl) rfl (by kernel_rfl) (by kernel_rfl) (by kernel_rfl) (fun _ _ _ h => h) (Or.inl ⟨by rfl, ?_⟩) (by assumption) ?_
  · intro wq hS
    go_simp
  try simp only [Act.put, List.setIfInBounds_toArray, List.set_cons_zero, List.set_cons_succ]
  refine takeD 32 6 (.bool false) (by exact rfl) rfl (by kernel_rfl) (by kernel_rfl) (by kernel_rfl) (fun _ _ _ h => h) (Or.inl ⟨by rfl, ?_⟩) (by assumption) ?_
  · intro wq hS
    go_simp
  try simp only [Act.put, List.setIfInBounds_toArray, List.set_cons_zero, List.set_cons_succ]
  refine wpAnyH_done (by kernel_rfl) ?_ _
  refine NoPanic.normal ?_
  go_wp2_with fail
  go_ret
  exact ⟨rfl, HD.out⟩
structure WholeT (x : AD) (per lo : Nat) (ss : List (List Rc)) (T : List Nat) : Prop where
  file : ∀ i rs, ss[i]? = some rs → ∃ t, lk x.fs (nmS (lo + i)) = some t ∧ flat t.2.1 = segB ((lo + i) * per + 1) rs ++ (if i + 1 = ss.length then T else [])
  full : ∀ i rs, ss[i]? = some rs → i + 1 < ss.length → rs.length = per
  last : ∀ rs ∈ ss, rs.length ≤ per ∧ ∀ r ∈ rs, Rok r
theorem wholeT_len {x : AD} {per lo : Nat} {ss : List (List Rc)} {T : List Nat} (h : WholeT x per lo ss T) : ∀ k, k < ss.length → (ss.take k).flatten.length = k * per
  | 0, _ => by simp
  | k + 1, hk => by
    obtain ⟨rs, hrs⟩ : ∃ rs, ss[k]? = some rs := ⟨_, List.getElem?_eq_getElem (by omega)⟩
    rw [List.take_add_one, hrs, List.flatten_append, List.length_append, wholeT_len h k (by omega)]
    have := h.full k rs hrs (by omega)
    simp [this, Nat.add_mul]
structure AtT (T : List Nat) (x : AD) (g0 : LG) (per lo : Nat) (ss : List (List Rc)) (k : Nat) (rs : List Rc) (t : List UInt8 × List (List Nat) × Nat) (gk : LG) : Prop where
  eqk : gk = adv g0 (ss.take k).flatten
  lk : lk x.fs (nmS (lo + k)) = some t
  byt : flat t.2.1 = segB gk.next rs ++ (if k + 1 = ss.length then T else [])
  lkd : Lkd gk rs
  rok : ∀ r ∈ rs, Rok r
  len : rs.length ≤ per
  next : gk.next = (lo + k) * per + 1
  full : k + 1 < ss.length → rs.length = per
  elt : ss[k]? = some rs
  snoc : (ss.take (k + 1)).flatten = (ss.take k).flatten ++ rs
  per : gk.per = per ∧ gk.low = g0.low ∧ gk.ended = g0.ended
  last : gk.last.length = 32 ∧ By gk.last
theorem wholeT_at {x : AD} {per lo : Nat} {ss : List (List Rc)} {T : List Nat} (h : WholeT x per lo ss T) (g0 : LG) (hn : g0.next = lo * per + 1) (hp : g0.per = per) (hl : g0.last.length = 32 ∧ By g0.last) (hL : Lkd g0 ss.flatten) (k : Nat) (hk : k < ss.length) : ∃ rs t gk, AtT T x g0 per lo ss k rs t gk := by
  obtain ⟨rs, hrs⟩ : ∃ rs, ss[k]? = some rs := ⟨_, List.getElem?_eq_getElem hk⟩
  obtain ⟨t, h1, h2⟩ := h.file k rs hrs
  obtain ⟨p1, p2, p3, p4, p5⟩ := adv_per g0 (ss.take k).flatten
  have hnx : (adv g0 (ss.take k).flatten).next = (lo + k) * per + 1 := by rw [p5, wholeT_len h k hk, hn, Nat.add_mul]; omega
  have hsn : (ss.take (k + 1)).flatten = (ss.take k).flatten ++ rs := by rw [List.take_add_one, hrs, List.flatten_append]; simp
  have hm : rs ∈ ss := List.mem_of_getElem? hrs
  have hsp : ss.flatten = (ss.take k).flatten ++ (rs ++ (ss.drop (k + 1)).flatten) := by
    rw [← List.append_assoc, ← hsn, ← List.flatten_append, List.take_append_drop]
  rw [hsp, lkd_app, lkd_app] at hL
  refine ⟨rs, t, _, rfl, h1, by rw [hnx]; exact h2, hL.2.1, (h.last rs hm).2, (h.last rs hm).1, hnx, h.full k rs hrs, hrs, hsn, ⟨p1.trans hp, p2, p4⟩, adv_last _ _ hl (fun r hr => ?_)⟩
  obtain ⟨rs', h3, h4⟩ := List.mem_flatten.1 hr
  exact (h.last rs' (List.mem_of_mem_take h3)).2 r h4
set_option maxRecDepth 100000 in
set_option maxHeartbeats 8000000 in
theorem readR_ok (w : World) (B p m lp lo N : Nat) (x : AD) (g : LG) (ss : List (List Rc)) (h : DA w B p m x) (hon : x.on = true) (hg : Lg w lp p g) (hB : B ≤ lp) (ho : g.ok) (hgl : g.last.length = 32 ∧ By g.last) (hT : PtB B w) (hTb : TbB B w) (va : Option Addr) (vc : Nat) (hv : Sl KI w (.slice va N vc) ((List.range N).map (lo + ·))) (hne : ∀ b o, va = some ⟨b, o, none⟩ → b ≠ lp) (hN : ss.length = N) (hN0 : 0 < N) (hN1 : N ≤ 100) (hlo : lo + N ≤ 4000000) (T : List Nat) (hW : WholeT x g.per lo ss T) (hbad : lo * g.per + 1 + ss.flatten.length ≤ (lo + N) * g.per → Bad (lo * g.per + 1 + ss.flatten.length) T) (hops : x.ops ≤ 4611686018427387904) (hlft : x.left ≤ 9223372036854775807) (hk : Lkd ⟨g.per, lo, lo, lo * g.per + 1, g.last, g.ended⟩ ss.flatten) :
    Calls Tryz.prog 38 #[.pointer (some ⟨lp, 0, none⟩), .slice va N vc] w fun e w' => ∃ (u : Value) (kp : Nat), e = .returned (.tuple #[u, .int .i64 ((dcut x (lo + N - 1) kp T).1 : Nat)]) ∧ (∀ rs, ss[N - 1]? = some rs → kp = (segB ((lo + (N - 1)) * g.per + 1) rs).length / 32) ∧ Pay w' w.heap.size u (ss.flatten.map (·.1)) ∧ Lg w' lp p ((adv ⟨g.per, lo, lo, lo * g.per + 1, g.last, g.ended⟩ ss.flatten).hi (lo + N - 1)) ∧ DA w' B p m (dcut x (lo + N - 1) kp T).2 ∧ Kel w w' ∧ Below B w w' := by
  have HA : Hid (DA w B p m x) := h
  have HGW : Hid (Lg w lp p g) := hg
  have HT0 : Hid (PtB B w ∧ TbB B w) := ⟨hT, hTb⟩
  have HS : Hid (Sl KI w (.slice va N vc) ((List.range N).map (lo + ·))) := hv
  have HBADT : Hid ((lo * g.per + 1 + ss.flatten.length ≤ (lo + N) * g.per → Bad (lo * g.per + 1 + ss.flatten.length) T) ∧ x.ops ≤ 4611686018427387904 ∧ x.left ≤ 9223372036854775807) := ⟨hbad, hops, hlft⟩
  clear hbad hops hlft
  have HNN : Hid (ss.length = N ∧ 0 < N ∧ N ≤ 100 ∧ lo + N ≤ 4000000) := ⟨hN, hN0, hN1, hlo⟩
  have HO : Hid (g.ok ∧ g.last.length = 32 ∧ By g.last) := ⟨ho, hgl⟩
  have HBB : Hid (B ≤ lp ∧ B ≤ w.heap.size) := ⟨hB, h.lt⟩
  have hcap : N ≤ vc ∧ vc ≤ 9223372036854775807 := by
    obtain ⟨_, c', ec, e1, e2, _⟩ := hv.form
    injection ec with _ _ e3
    rw [List.length_map, List.length_range] at e1
    omega
  obtain ⟨vb, vo, rfl, hvb, hcl⟩ := hv.at 0 lo (by rw [List.getElem?_map, List.getElem?_range (by omega)]; rfl)
  have HROW : Hid (∀ k, k < N → w.cell? ⟨vb, vo + k, none⟩ = some (.int .i64 ((lo + k : Nat) : Int))) := fun k hk => by
    obtain ⟨b', o', e', _, hc'⟩ := hv.at k (lo + k) (by rw [List.getElem?_map, List.getElem?_range hk]; rfl)
    cases e'
    have := hc' 0 (.int .i64 ((lo + k : Nat) : Int)) rfl
    rw [show k * KI.k = k from Nat.mul_one k, Nat.add_zero] at this
    exact this
  have HVB : Hid (vb < w.heap.size ∧ vb ≠ lp) := ⟨hvb, hne vb vo rfl⟩
  have c0 : w.cell? ⟨vb, vo, none⟩ = some (.int .i64 (lo : Int)) := by have := hcl 0 (.int .i64 (lo : Int)) rfl; simpa using this
  have y2 := hg.cell 2 (v := .int .i64 (g.low : Int)) rfl
  have f2 := hg.free 2
  have dN : (0 : Int) < (N : Int) := by omega
  obtain ⟨fn, hfn⟩ : ∃ fn, fn = lo * g.per + 1 := ⟨_, rfl⟩
  rw [← hfn] at hk ⊢
  have HEQ : Hid (fn = lo * g.per + 1) := hfn
  have HAT := (show Hid _ from wholeT_at hW ⟨g.per, lo, lo, fn, g.last, g.ended⟩ hfn rfl hgl hk)
  clear h hg hT hTb hv hW hk ho hgl hcl hne hvb hB
  go_enter Tryz.func38, Tryz.ntmps38
  go_upto_region 3 with fail
  have HG : Hid (Lg (w.setCell ⟨lp, 2, none⟩ (.int .i64 (lo : Int))) lp p { g with low := lo }) := HGW.out.set 2 (.int .i64 (lo : Int))
  have HBU : Hid (But (fun i => i = lp) w (w.setCell ⟨lp, 2, none⟩ (.int .i64 (lo : Int)))) := (But.refl _ _).upd (upd_set w lp 2 _)
  clear y2 f2 c0
  have HFO := (show Hid _ from fun w' (k : Lg w' lp p { g with low := lo }) => firstOf_ok w' lp p { g with low := lo } k ⟨HO.out.1.per, by have := HNN.out; show lo ≤ _; omega, HO.out.1.high, HO.out.1.next⟩ lo (by have := HNN.out; omega))
  have hfn2 : fn = lo * ({ g with low := lo } : LG).per + 1 := hfn
  rw [← hfn2] at HFO
  have HLOW : Hid ((({ g with low := lo, high := lo, next := fn } : LG).cells p)[2]? = some (.int .i64 (lo : Int))) := (show _ = _ from rfl)
  have HY2 : Hid ((w.setCell ⟨lp, 2, none⟩ (.int .i64 (lo : Int))).drew.cell? ⟨lp, 2, none⟩ = some (.int .i64 (lo : Int))) := HG.out.cell 2 rfl
  clear hfn hfn2
  generalize w.setCell ⟨lp, 2, none⟩ (.int .i64 (lo : Int)) = w0 at *
  refine wp_region_noPanic ?_
  refine wp_region_held_drew (S := fun V => V.cell? ⟨lp, 2, none⟩ = some (.int .i64 (lo : Int))) (by kernel_rfl) HY2.out ?_
  intro hHeld
  have HB0 : Hid (But (fun i => i = lp) w w0.drew) := ⟨HBU.out.os, HBU.out.tape, HBU.out.output, HBU.out.size, HBU.out.block⟩
  have HG0 : Hid (Lg w0.drew lp p ({ g with low := lo })) := VA.drew HG.out
  clear HBU HG HY2
  generalize w0.drew = w1 at *
  refine takeD 0 23 (.pointer (some ⟨lp, 0, none⟩)) (by exact rfl) rfl (by kernel_rfl) (by kernel_rfl) (by kernel_rfl) (fun _ _ _ h => h) (Or.inl ⟨by rfl, ?_⟩) (by assumption) ?_
  · intro wq hS
    go_simp
  try simp only [Act.put, List.setIfInBounds_toArray, List.set_cons_zero, List.set_cons_succ]
  refine takeD 1 24 (.pointer (some ⟨lp, 0, none⟩)) (by exact rfl) rfl (by kernel_rfl) (by kernel_rfl) (by kernel_rfl) (fun _ _ _ h => h) (Or.inl ⟨by rfl, ?_⟩) (by assumption) ?_
  · intro wq hS
    go_simp
  try simp only [Act.put, List.setIfInBounds_toArray, List.set_cons_zero, List.set_cons_succ]
  refine takeD 2 25 (.pointer (some ⟨lp, 0, none⟩)) (by exact rfl) rfl (by kernel_rfl) (by kernel_rfl) (by kernel_rfl) (fun _ _ _ h => h) (Or.inl ⟨by rfl, ?_⟩) (by assumption) ?_
  · intro wq hS
    go_simp
  try simp only [Act.put, List.setIfInBounds_toArray, List.set_cons_zero, List.set_cons_succ]
  refine takeD 3 26 (.pointer (some ⟨lp, 0, none⟩)) (by exact rfl) rfl (by kernel_rfl) (by kernel_rfl) (by kernel_rfl) (fun _ _ _ h => h) (Or.inl ⟨by rfl, ?_⟩) (by assumption) ?_
  · intro wq hS
    go_simp
  try simp only [Act.put, List.setIfInBounds_toArray, List.set_cons_zero, List.set_cons_succ]
  refine takeD 4 27 (.pointer (some ⟨lp, 2, none⟩)) (by exact rfl) rfl (by kernel_rfl) (by kernel_rfl) (by kernel_rfl) (fun _ _ _ h => h) (Or.inl ⟨by rfl, ?_⟩) (by assumption) ?_
  · intro wq hS
    go_simp
  try simp only [Act.put, List.setIfInBounds_toArray, List.set_cons_zero, List.set_cons_succ]
  refine takeD 5 28 (.int .i64 (lo : Int)) (by exact rfl) rfl (by kernel_rfl) (by kernel_rfl) (by kernel_rfl) (fun _ _ _ h => h) (Or.inl ⟨by rfl, ?_⟩) (by assumption) ?_
  · intro wq hS
    have c := hS
    go_simp
  try simp only [Act.put, List.setIfInBounds_toArray, List.set_cons_zero, List.set_cons_succ]
  refine takeD 6 29 (.pointer (some ⟨lp, 0, none⟩)) (by exact rfl) rfl (by kernel_rfl) (by kernel_rfl) (by kernel_rfl) (fun _ _ _ h => h) (Or.inl ⟨by rfl, ?_⟩) (by assumption) ?_
  · intro wq hS
    go_simp
  try simp only [Act.put, List.setIfInBounds_toArray, List.set_cons_zero, List.set_cons_succ]
  refine takeD 7 30 (.pointer (some ⟨lp, 0, none⟩)) (by exact rfl) rfl (by kernel_rfl) (by kernel_rfl) (by kernel_rfl) (fun _ _ _ h => h) (Or.inl ⟨by rfl, ?_⟩) (by assumption) ?_
  · intro wq hS
    go_simp
  try simp only [Act.put, List.setIfInBounds_toArray, List.set_cons_zero, List.set_cons_succ]
  refine takeD 8 31 (.pointer (some ⟨lp, 0, none⟩)) (by exact rfl) rfl (by kernel_rfl) (by kernel_rfl) (by kernel_rfl) (fun _ _ _ h => h) (Or.inl ⟨by rfl, ?_⟩) (by assumption) ?_
  · intro wq hS
    go_simp
  try simp only [Act.put, List.setIfInBounds_toArray, List.set_cons_zero, List.set_cons_succ]
  refine takeD 9 32 (.pointer (some ⟨lp, 2, none⟩)) (by exact rfl) rfl (by kernel_rfl) (by kernel_rfl) (by kernel_rfl) (fun _ _ _ h => h) (Or.inl ⟨by rfl, ?_⟩) (by assumption) ?_
  · intro wq hS
    go_simp
  try simp only [Act.put, List.setIfInBounds_toArray, List.set_cons_zero, List.set_cons_succ]
  refine takeD 10 33 (.int .i64 (lo : Int)) (by exact rfl) rfl (by kernel_rfl) (by kernel_rfl) (by kernel_rfl) (fun _ _ _ h => h) (Or.inl ⟨by rfl, ?_⟩) (by assumption) ?_
  · intro wq hS
    have c := hS
    go_simp
  try simp only [Act.put, List.setIfInBounds_toArray, List.set_cons_zero, List.set_cons_succ]
  refine wpAnyH_ready (rs := [11]) (by kernel_rfl) (by simp) ?_
  refine AllReadyH.cons (by exact rfl) (fun K hK => ?_) AllReadyH.nil
  go_simp
  refine (HFO.out w1 HG0.out).mono ?_
  rintro e w1b ⟨rfl, rfl⟩
  skip
  go_wp2_with fail
  refine hK.out _ _ hHeld (fun hHeld => ?_)
  clear hK K 
  try simp only [Act.put, List.setIfInBounds_toArray, List.set_cons_zero, List.set_cons_succ]
  refine takeD 12 35 (.pointer (some ⟨lp, 0, none⟩)) (by exact rfl) rfl (by kernel_rfl) (by kernel_rfl) (by kernel_rfl) (fun _ _ _ h => h) (Or.inl ⟨by rfl, ?_⟩) (by assumption) ?_
  · intro wq hS
    go_simp
  try simp only [Act.put, List.setIfInBounds_toArray, List.set_cons_zero, List.set_cons_succ]
  refine takeD 13 36 (.pointer (some ⟨lp, 3, none⟩)) (by exact rfl) rfl (by kernel_rfl) (by kernel_rfl) (by kernel_rfl) (fun _ _ _ h => h) (Or.inl ⟨by rfl, ?_⟩) (by assumption) ?_
  · intro wq hS
    go_simp
  try simp only [Act.put, List.setIfInBounds_toArray, List.set_cons_zero, List.set_cons_succ]
  have y3 := HG0.out.cell 3 (v := .int .i64 (({ g with low := lo }).high : Int)) rfl
  have f3 := HG0.out.free 3
  have V2 : Lg (w1b.setCell ⟨lp, 3, none⟩ (.int .i64 (lo : Int))) lp p { { g with low := lo } with high := lo } := HG0.out.set 3 (.int .i64 (lo : Int))
  have HB2 : Hid (But (fun i => i = lp) w (w1b.setCell ⟨lp, 3, none⟩ (.int .i64 (lo : Int)))) := HB0.out.upd (upd_set w1b lp 3 _)
  have HL2 : Hid ((w1b.setCell ⟨lp, 3, none⟩ (.int .i64 (lo : Int))).cell? ⟨lp, 2, none⟩ = some (.int .i64 (lo : Int))) := V2.cell 2 (v := .int .i64 (lo : Int)) HLOW.out
  have HV2 := (show Hid _ from V2)
  clear V2
  refine wpAnyH_ready (rs := [14]) (by kernel_rfl) (by simp) ?_
  refine AllReadyH.cons (by exact rfl) (fun K hK => ?_) AllReadyH.nil
  go_simp
  refine hK.out _ _ HL2.out (fun hHeld => ?_)
  clear hK K y3 f3
  try simp only [Act.put, List.setIfInBounds_toArray, List.set_cons_zero, List.set_cons_succ]
  generalize w1b.setCell ⟨lp, 3, none⟩ (.int .i64 (lo : Int)) = w2 at *
  refine takeD 15 37 (.pointer (some ⟨lp, 0, none⟩)) (by exact rfl) rfl (by kernel_rfl) (by kernel_rfl) (by kernel_rfl) (fun _ _ _ h => h) (Or.inl ⟨by rfl, ?_⟩) (by assumption) ?_
  · intro wq hS
    go_simp
  try simp only [Act.put, List.setIfInBounds_toArray, List.set_cons_zero, List.set_cons_succ]
  refine takeD 16 38 (.pointer (some ⟨lp, 4, none⟩)) (by exact rfl) rfl (by kernel_rfl) (by kernel_rfl) (by kernel_rfl) (fun _ _ _ h => h) (Or.inl ⟨by rfl, ?_⟩) (by assumption) ?_
  · intro wq hS
    go_simp
  try simp only [Act.put, List.setIfInBounds_toArray, List.set_cons_zero, List.set_cons_succ]
  have y4 := HV2.out.cell 4 (v := .int .i64 (({ g with low := lo }).next : Int)) rfl
  have f4 := HV2.out.free 4
  have V3 : Lg (w2.setCell ⟨lp, 4, none⟩ (.int .i64 (fn : Int))) lp p { { g with low := lo } with high := lo, next := fn } := HV2.out.set 4 (.int .i64 (fn : Int))
  have HB3 : Hid (But (fun i => i = lp) w (w2.setCell ⟨lp, 4, none⟩ (.int .i64 (fn : Int)))) := HB2.out.upd (upd_set w2 lp 4 _)
  have HL3 : Hid ((w2.setCell ⟨lp, 4, none⟩ (.int .i64 (fn : Int))).cell? ⟨lp, 2, none⟩ = some (.int .i64 (lo : Int))) := V3.cell 2 (v := .int .i64 (lo : Int)) HLOW.out
  have HV3 := (show Hid _ from V3)
  clear V3
  refine wpAnyH_ready (rs := [17]) (by kernel_rfl) (by simp) ?_
  refine AllReadyH.cons (by exact rfl) (fun K hK => ?_) AllReadyH.nil
  go_simp
  refine hK.out _ _ HL3.out (fun hHeld => ?_)
  clear hK K y4 f4
  try simp only [Act.put, List.setIfInBounds_toArray, List.set_cons_zero, List.set_cons_succ]
  generalize w2.setCell ⟨lp, 4, none⟩ (.int .i64 (fn : Int)) = w3 at *
  refine wpAnyH_done (by kernel_rfl) ?_ _
  refine NoPanic.normal ?_
  clear hHeld HB0 HG0 HB2 HL2 HV2 HL3
  have HV3' : Hid (Lg w3 lp p (LG.hi ⟨g.per, lo, lo, fn, g.last, g.ended⟩ lo)) := HV3.out
  clear HV3 HFO HLOW
  go_wp2_with fail
  go_loopw [6, 41] (fun u i wr => ∃ (k : Nat) (hh : Nat), k < N ∧ i = .int .i64 (k : Int) ∧ Hid (Lg wr lp p ((adv ⟨g.per, lo, lo, fn, g.last, g.ended⟩ (ss.take k).flatten).hi hh)) ∧ Hid (Pay wr w.heap.size u ((ss.take k).flatten.map (·.1))) ∧ Hid (But (fun i => i = lp) w wr)) (fun _ i _ => N - (intOf i).toNat)
  case atStart => exact ⟨0, lo, HNN.out.2.1, rfl, HV3', ⟨[], rfl, own_nil KT _ _, fun t ht => by cases ht⟩, HB3⟩
  case round =>
    obtain ⟨k, hh, hk, rfl, HL, HPY, HBU⟩ := hrel
    obtain ⟨rs, t, gk, hat⟩ := HAT.out k (by rw [HNN.out.1]; exact hk)
    obtain ⟨Tk, hTk⟩ : ∃ z, z = (if k + 1 = ss.length then T else []) := ⟨_, rfl⟩
    have HTK : Hid (Tk = (if k + 1 = ss.length then T else [])) := hTk
    have HX : Hid (AtT T x ⟨g.per, lo, lo, fn, g.last, g.ended⟩ g.per lo ss k rs t gk) := hat
    rw [← hat.eqk] at HL
    clear hat hTk
    have yk : wr.cell? ⟨vb, vo + k, none⟩ = some (.int .i64 ((lo + k : Nat) : Int)) := by
      rw [← HROW.out k hk]
      exact World.cell?_of_block (a := ⟨vb, vo + k, none⟩) (HBU.out.block vb HVB.out.1 HVB.out.2)
    obtain ⟨c, hc⟩ : ∃ c, c = lo + k := ⟨_, rfl⟩
    rw [← hc] at yk
    have HC : Hid (c = lo + k) := hc
    have hcb : c ≤ 4000000 := by have := HNN.out; omega
    clear hc
    have y3 := HL.out.cell 3 (v := .int .i64 ((hh : Nat) : Int)) rfl
    have f3 := HL.out.free 3
    have dk : (k : Int) < (N : Int) := by omega
    have hN1 : N ≤ 100 := HNN.out.2.2.1
    go_upto_region 9 with fail
    have HL1 : Hid (Lg (wr.setCell ⟨lp, 3, none⟩ (.int .i64 (c : Int))) lp p (gk.hi c)) := HL.out.set 3 (.int .i64 (c : Int))
    have HB1 : Hid (But (fun i => i = lp) w (wr.setCell ⟨lp, 3, none⟩ (.int .i64 (c : Int)))) := HBU.out.upd (upd_set wr lp 3 _)
    have HP1 : Hid (Pay (wr.setCell ⟨lp, 3, none⟩ (.int .i64 (c : Int))) w.heap.size u6 ((ss.take k).flatten.map (·.1))) := HPY.out.kel (KeL.upd (upd_set wr lp 3 _) HL.out)
    clear HL HBU HPY yk y3 f3
    generalize wr.setCell ⟨lp, 3, none⟩ (.int .i64 (c : Int)) = w1 at *
    have HA1 : Hid (DA w1 B p m x) := HA.out.kel (HB1.out.kel HGW.out)
    have HT1 : Hid (PtB B w1 ∧ TbB B w1) := ⟨HT0.out.1.on (HB1.out.below HBB.out.2 (fun i hi => by have h1 : i = lp := hi; rw [h1]; exact HBB.out.1)), HT0.out.2.on (HB1.out.below HBB.out.2 (fun i hi => by have h1 : i = lp := hi; rw [h1]; exact HBB.out.1))⟩
    refine wp_region_noPanic ?_
    refine wp_region_held_drew (S := fun V => V.cell? ⟨lp, 0, none⟩ = some (.pointer (some ⟨p, 0, none⟩))) (by kernel_rfl) (HL1.out.cell 0 rfl) ?_
    intro hHeld
    have HD : Hid (Below w1.heap.size w1 w1.drew) := (Below.refl _ _).drew
    generalize w1.drew = w2 at *
    refine takeD 0 51 (.pointer (some ⟨lp, 0, none⟩)) (by exact rfl) rfl (by kernel_rfl) (by kernel_rfl) (by kernel_rfl) (fun _ _ _ h => h) (Or.inl ⟨by rfl, ?_⟩) (by assumption) ?_
    · intro wq hS
      go_simp
    try simp only [Act.put, List.setIfInBounds_toArray, List.set_cons_zero, List.set_cons_succ]
    refine takeD 1 52 (.pointer (some ⟨lp, 0, none⟩)) (by exact rfl) rfl (by kernel_rfl) (by kernel_rfl) (by kernel_rfl) (fun _ _ _ h => h) (Or.inl ⟨by rfl, ?_⟩) (by assumption) ?_
    · intro wq hS
      go_simp
    try simp only [Act.put, List.setIfInBounds_toArray, List.set_cons_zero, List.set_cons_succ]
    refine takeD 2 53 (.pointer (some ⟨lp, 0, none⟩)) (by exact rfl) rfl (by kernel_rfl) (by kernel_rfl) (by kernel_rfl) (fun _ _ _ h => h) (Or.inl ⟨by rfl, ?_⟩) (by assumption) ?_
    · intro wq hS
      go_simp
    try simp only [Act.put, List.setIfInBounds_toArray, List.set_cons_zero, List.set_cons_succ]
    refine takeD 3 54 (.pointer (some ⟨p, 0, none⟩)) (by exact rfl) rfl (by kernel_rfl) (by kernel_rfl) (by kernel_rfl) (fun _ _ _ h => h) (Or.inl ⟨by rfl, ?_⟩) (by assumption) ?_
    · intro wq hS
      have cc := hS
      go_simp
    try simp only [Act.put, List.setIfInBounds_toArray, List.set_cons_zero, List.set_cons_succ]
    refine takeD 4 55 (.int .i64 (c : Int)) (by exact rfl) rfl (by kernel_rfl) (by kernel_rfl) (by kernel_rfl) (fun _ _ _ h => h) (Or.inl ⟨by rfl, ?_⟩) (by assumption) ?_
    · intro wq hS
      go_simp
    try simp only [Act.put, List.setIfInBounds_toArray, List.set_cons_zero, List.set_cons_succ]
    refine wpAnyH_ready (rs := [5]) (by kernel_rfl) (by simp) ?_
    refine AllReadyH.cons (by exact rfl) (fun K hK => ?_) AllReadyH.nil
    go_simp
    refine (sname_ok c w2 (by omega) (HT1.out.1.on (HD.out.mono HA1.out.lt)).pt).mono ?_
    rintro e w3 ⟨rfl, b3⟩
    have HD3 : Hid (Below w1.heap.size w1 w3) := HD.out.trans (b3.mono HD.out.size)
    go_wp2_with fail
    refine hK.out _ _ ((HL1.out.step HD3.out).cell 0 rfl) (fun hHeld => ?_)
    clear hK K b3 HD
    try simp only [Act.put, List.setIfInBounds_toArray, List.set_cons_zero, List.set_cons_succ]
    refine wpAnyH_ready (rs := [6]) (by kernel_rfl) (by simp) ?_
    refine AllReadyH.cons (by exact rfl) (fun K hK => ?_) AllReadyH.nil
    go_simp
    refine (read_any w3 B p m x (HA1.out.step HD3.out) ⟨(nmS c).toArray⟩ (by show (nmS c).toArray.size ≤ _; simp [nmS_len])).mono ?_
    rintro e w4 ⟨⟨sv, rfl, o4⟩, b4⟩
    have HD4 : Hid (Below w1.heap.size w1 w4) := HD3.out.trans (b4.mono HD3.out.size)
    have hsn : seen x (nmS c) = (0, t.2.1) := seen_on (nmS_is _) (by rw [HC.out]; exact HX.out.lk) hon
    have hsn2 : seen x (⟨(nmS c).toArray⟩ : ByteArray).data.toList = (0, t.2.1) := hsn
    rw [hsn2] at o4 ⊢
    have HSB : Hid (Bs w4 sv (segB (gk.hi c).next rs ++ Tk) ∧ SafeU w4 sv) := ⟨by have := o4.bs; rw [show flat ((0, t.2.1) : Nat × List (List Nat)).2 = segB gk.next rs ++ Tk from by rw [HTK.out]; exact HX.out.byt] at this; exact this, o4.safeU⟩
    have HSV : Hid (Bs w4 sv (segB (gk.hi c).next rs ++ Tk)) := HSB.out.1
    clear o4 hsn hsn2
    dsimp only
    go_wp2_with fail
    refine hK.out _ _ ((HL1.out.step HD4.out).cell 0 rfl) (fun hHeld => ?_)
    clear hK K b4 HD3
    try simp only [Act.put, List.setIfInBounds_toArray, List.set_cons_zero, List.set_cons_succ]
    refine takeD 7 50 (.tuple #[sv, .int .i64 0]) (by exact rfl) rfl (by kernel_rfl) (by kernel_rfl) (by kernel_rfl) (fun _ _ _ h => h) (Or.inl ⟨by rfl, ?_⟩) (by assumption) ?_
    · intro wq hS
      go_simp
    try simp only [Act.put, List.setIfInBounds_toArray, List.set_cons_zero, List.set_cons_succ]
    refine takeD 8 58 (sv) (by exact rfl) rfl (by kernel_rfl) (by kernel_rfl) (by kernel_rfl) (fun _ _ _ h => h) (Or.inl ⟨by rfl, ?_⟩) (by assumption) ?_
    · intro wq hS
      go_simp
    try simp only [Act.put, List.setIfInBounds_toArray, List.set_cons_zero, List.set_cons_succ]
    refine takeD 9 59 (.int .i64 0) (by exact rfl) rfl (by kernel_rfl) (by kernel_rfl) (by kernel_rfl) (fun _ _ _ h => h) (Or.inl ⟨by rfl, ?_⟩) (by assumption) ?_
    · intro wq hS
      go_simp
    try simp only [Act.put, List.setIfInBounds_toArray, List.set_cons_zero, List.set_cons_succ]
    refine takeD 10 9 (sv) (by exact rfl) rfl (by kernel_rfl) (by kernel_rfl) (by kernel_rfl) (fun _ _ _ h => h) (Or.inl ⟨by rfl, ?_⟩) (by assumption) ?_
    · intro wq hS
      go_simp
    try simp only [Act.put, List.setIfInBounds_toArray, List.set_cons_zero, List.set_cons_succ]
    refine takeD 11 10 (.int .i64 0) (by exact rfl) rfl (by kernel_rfl) (by kernel_rfl) (by kernel_rfl) (fun _ _ _ h => h) (Or.inl ⟨by rfl, ?_⟩) (by assumption) ?_
    · intro wq hS
      go_simp
    try simp only [Act.put, List.setIfInBounds_toArray, List.set_cons_zero, List.set_cons_succ]
    refine wpAnyH_done (by kernel_rfl) ?_ _
    refine NoPanic.normal ?_
    clear hHeld
    have HSZ : Hid (w.heap.size ≤ w1.heap.size) := HB1.out.size
    have HL4 : Hid (Lg w4 lp p (gk.hi c)) := HL1.out.step HD4.out
    have HB4 : Hid (But (fun i => i = lp) w w4) := HB1.out.then HD4.out
    have HP4 : Hid (Pay w4 w.heap.size u6 ((ss.take k).flatten.map (·.1))) := HP1.out.step HD4.out
    have HT4 : Hid (TbB B w4) := HT1.out.2.on (HD4.out.mono HA1.out.lt)
    have HMU : Hid (1 ≤ g.per ∧ g.per ≤ 1000 ∧ (lo + k) * g.per ≤ 4000000000 ∧ gk.next = (lo + k) * g.per + 1 ∧ (c + 1) * g.per = (lo + k) * g.per + g.per ∧ (lo + k) * g.per + g.per ≤ 4000000000 ∧ rs.length ≤ g.per) := (show _ by
      have h1 := HO.out.1.per
      have h2 := HNN.out
      have h3 : (lo + k + 1) * g.per ≤ 4000000 * 1000 := Nat.mul_le_mul (by omega) h1.2
      rw [Nat.add_mul, Nat.one_mul] at h3
      have h4 : (c + 1) * g.per = (lo + k) * g.per + g.per := by rw [HC.out, Nat.add_mul (lo + k), Nat.one_mul]
      exact ⟨h1.1, h1.2, by omega, HX.out.next, h4, by omega, HX.out.len⟩)
    have HOK : Hid (gk.hi c).ok := ⟨by show 1 ≤ gk.per ∧ gk.per ≤ 1000; rw [HX.out.per.1]; exact HO.out.1.per, by show gk.low ≤ _; rw [HX.out.per.2.1]; have := HNN.out; show lo ≤ _; omega, by show c ≤ _; omega, by show gk.next ≤ _; have := HMU.out; omega⟩
    have HNF : Hid (gk.next + rs.length = fn + ((ss.take (k + 1)).flatten).length) := (show _ = _ from by
      have h2 := (adv_per ⟨g.per, lo, lo, fn, g.last, g.ended⟩ (ss.take k).flatten).2.2.2.2
      rw [← HX.out.eqk] at h2
      have h3 : gk.next = fn + (ss.take k).flatten.length := h2
      rw [HX.out.snoc, List.length_append]
      omega)
    have HBK : Hid ((gk.hi c).next + rs.length ≤ ((gk.hi c).high + 1) * (gk.hi c).per → Bad ((gk.hi c).next + rs.length) Tk) := (fun hle => by
      have h0 : gk.next + rs.length ≤ (c + 1) * gk.per := hle
      show Bad (gk.next + rs.length) Tk
      rw [HTK.out]
      by_cases hkN : k + 1 = ss.length
      · rw [if_pos hkN]
        have h1 := HNF.out
        rw [List.take_of_length_le (by omega), HEQ.out] at h1
        rw [h1]
        refine HBADT.out.1 ?_
        rw [h1, HX.out.per.1, HC.out, show lo + k + 1 = lo + N by have := HNN.out.1; omega] at h0
        exact h0
      · rw [if_neg hkN]
        exact Or.inl rfl)
    clear HL1 HB1 HP1 HT1 HD4 HA1
    go_wp2_with fail
    refine (take_rest w4 lp p B (gk.hi c) HL4.out HBB.out.1 HOK.out HX.out.last HT4.out sv rs Tk HSB.out.1 HSB.out.2 ((lkd_hi _ _ _).2 HX.out.lkd) HX.out.rok (by show gk.next + rs.length ≤ (c + 1) * gk.per + 1; rw [HX.out.per.1]; have := HMU.out; omega) (by show gk.next + _ < _; have := HMU.out; omega) (by have := HMU.out; omega) HBK.out).mono ?_
    rintro e w5 ⟨⟨u5, ra, rn, rc, rfl, hp5, ht5, hs5⟩, hl5, hb5, hk5, hbb5⟩
    have HP5 : Hid (Pay w5 w4.heap.size u5 (rs.map (·.1))) := hp5
    have HRN : Hid (rn = Tk.length ∧ rn ≤ rc ∧ rc ≤ 9223372036854775807) := ht5.len
    have HG5 : Hid (Lg w5 lp p ((adv gk rs).hi c)) := by rw [adv_hi] at hl5; exact hl5
    have HB5 : Hid (But (fun i => i = lp) w w5) := HB4.out.trans hb5 (fun _ _ h => h)
    have HQ5 : Hid (Pay w5 w.heap.size u6 ((ss.take k).flatten.map (·.1))) := HP4.out.kel hk5
    have HLN : Hid (((ss.take k).flatten.map (·.1)).length + (rs.map (·.1)).length ≤ 1000000) := (show _ ≤ 1000000 by
      rw [List.length_map, List.length_map]
      have h1 := HMU.out
      have h2 := (adv_per ⟨g.per, lo, lo, fn, g.last, g.ended⟩ (ss.take k).flatten).2.2.2.2
      rw [← HX.out.eqk] at h2
      have h3 : gk.next = fn + (ss.take k).flatten.length := h2
      have h4 := HEQ.out
      have h5 : (lo + k) * g.per = lo * g.per + k * g.per := Nat.add_mul _ _ _
      have h6 : k * g.per ≤ 100 * 1000 := Nat.mul_le_mul (by omega) h1.2.1
      omega)
    clear ht5 hs5 hp5 hl5 hb5 hk5 hbb5 HP4 HB4 HL4 HT4 HSB
    go_upto_region 14 with (at_builtin; refine appPay (by rfl) _ _ rfl w.heap.size w4.heap.size _ _ _ _ (by rfl) (by rfl) HQ5.out HP5.out HB5.out.size HLN.out ?_; intro v6 w6 p6 b6 g6)
    have HG6 : Hid (Lg w6 lp p ((adv gk rs).hi c)) := by
      obtain ⟨ts, o6, r6⟩ := g6
      exact va_grown (HG5.out : VA _ _ _ _) o6 r6 (by decide)
    have HB6 : Hid (But (fun i => i = lp) w w6) := HB5.out.below2 b6
    have HP6 : Hid (Pay w6 w.heap.size v6 ((ss.take (k + 1)).flatten.map (·.1))) := by
      rw [HX.out.snoc, List.map_append]
      exact p6
    have HNX : Hid ((adv gk rs).next = gk.next + rs.length ∧ (adv gk rs).per = g.per) := (show _ from by
      have h1 := adv_per gk rs
      exact ⟨h1.2.2.2.2, h1.1.trans HX.out.per.1⟩)
    have HOK6 : Hid ((adv gk rs).hi c).ok := (show _ from by
      have h1 := adv_per gk rs
      refine ⟨?_, ?_, ?_, ?_⟩
      · show 1 ≤ (adv gk rs).per ∧ (adv gk rs).per ≤ 1000
        rw [HNX.out.2]; exact HO.out.1.per
      · show (adv gk rs).low ≤ _
        rw [h1.2.1, HX.out.per.2.1]
        have := HNN.out
        show lo ≤ _
        omega
      · show c ≤ _
        omega
      · show (adv gk rs).next ≤ _
        have h2 := HNX.out.1
        have h3 := HMU.out
        omega)
    clear p6 b6 g6 HG5 HP5 HB5 HQ5 HOK HLN
    obtain ⟨sa, sL, sc, rfl, hsL, hsE⟩ : ∃ a n c, sv = .slice a n c ∧ n ≤ 9223372036854775807 ∧ n = (segB gk.next rs ++ Tk).length := by
      obtain ⟨_, a, c, e, h1, h2, _⟩ := HSV.out
      exact ⟨a, _, c, e, Nat.le_trans h1 h2, rfl⟩
    have HSE : Hid (sL = (segB gk.next rs).length + rn) := (show _ = _ from by rw [hsE, List.length_append, HRN.out.1])
    clear hsE
    have hvc : N ≤ vc := hcap.1
    have hvc2 : vc ≤ 9223372036854775807 := hcap.2
    have hrnb : rn ≤ 9223372036854775807 := by have := HRN.out; omega
    by_cases ck : k + 1 < N
    · have hrn0 : rn = 0 := by
        rw [HRN.out.1, HTK.out, if_neg (by have := HNN.out.1; omega)]
        rfl
      subst hrn0
      have HYK : Hid (w6.cell? ⟨vb, vo + (k + 1), none⟩ = some (.int .i64 ((((adv gk rs).hi c).high : Int) + 1))) := (show _ = _ from by
        have h1 := World.cell?_of_block (a := ⟨vb, vo + (k + 1), none⟩) (HB6.out.block vb HVB.out.1 HVB.out.2)
        rw [h1, HROW.out (k + 1) ck]
        have h2 := HC.out
        show some (Value.int .i64 ((lo + (k + 1) : Nat) : Int)) = some (Value.int .i64 ((c : Int) + 1))
        rw [show ((lo + (k + 1) : Nat) : Int) = (c : Int) + 1 by omega])
      have HGO : Hid ((((adv gk rs).hi c).high + 1) * ((adv gk rs).hi c).per < ((adv gk rs).hi c).next) := (show (c + 1) * (adv gk rs).per < (adv gk rs).next from by
        rw [HNX.out.2, HNX.out.1, HX.out.full (by rw [HNN.out.1]; exact ck)]
        have := HMU.out
        omega)
      have HN3 : Hid (0 < N - (k + 1)) := (show 0 < _ by omega)
      have e1 : ¬ vc = k + 1 := by omega
      have e2 : ((k : Int) + 1 < (N : Int)) := by omega
      go_wp2_with fail
      refine (goesOn_yes w6 lp p _ HG6.out HOK6.out ra rc HGO.out vb (vo + (k + 1)) (N - (k + 1)) (vc - (k + 1)) HN3.out HYK.out).mono ?_
      rintro e w7 ⟨rfl, b7⟩
      have HL7 : Hid (Lg w7 lp p ((adv ⟨g.per, lo, lo, fn, g.last, g.ended⟩ (ss.take (k + 1)).flatten).hi c)) := (show Lg _ _ _ _ from by
        rw [HX.out.snoc, adv_app, ← HX.out.eqk]
        exact HG6.out.step b7)
      have HB7 : Hid (But (fun i => i = lp) w w7) := HB6.out.then b7
      have HP7 : Hid (Pay w7 w.heap.size v6 ((ss.take (k + 1)).flatten.map (·.1))) := HP6.out.step b7
      clear b7 HB6 HP6 HG6 HYK HGO HN3 e1 e2
      go_wp2_with fail
      go_roundw
      case rel => exact ⟨k + 1, c, ck, by go_num, HL7, HP7, HB7⟩
      case measure => simp [intOf]; omega
    · have HKN : Hid (k + 1 = N) := (show k + 1 = N by omega)
      have HFL : Hid (ss.take (k + 1) = ss) := (show _ = _ from List.take_of_length_le (by rw [HNN.out.1]; omega))
      have e0 : N - (k + 1) = 0 := by omega
      have e2 : (k : Int) + 1 ≤ (N : Int) := by omega
      obtain ⟨kp, hkp⟩ : ∃ kp : Nat, ((sL : Int) - (rn : Int)) / 32 = (kp : Int) := ⟨(segB gk.next rs).length / 32, by have := HSE.out; omega⟩
      have hkpb : kp ≤ 9223372036854775807 := by omega
      have hsr : (rn : Int) ≤ (sL : Int) := by have := HSE.out; omega
      have HKP : Hid (∀ rs', ss[N - 1]? = some rs' → kp = (segB ((lo + (N - 1)) * g.per + 1) rs').length / 32) := (fun rs' h => by
        have h1 := HX.out.elt
        rw [show N - 1 = k by have := HKN.out; omega, h1] at h
        cases h
        rw [show lo + (N - 1) = lo + k by have := HKN.out; omega, ← HX.out.next]
        have := HSE.out
        omega)
      clear ck
      by_cases ct : T = []
      · have hT0 : Hid (T = []) := ct
        have hrn0 : rn = 0 := by
          rw [HRN.out.1, HTK.out, ct]
          split <;> rfl
        subst hrn0
        clear ct
        have HGN := (show Hid _ from fun (ja : Option Addr) (jc : Nat) => (show Calls Tryz.prog 74 #[.pointer (some ⟨lp, 0, none⟩), .slice ra 0 rc, .slice ja 0 jc] w6 (fun e w' => e = .returned (.bool false) ∧ Below w6.heap.size w6 w') from by
          by_cases cf : g.per ≤ rs.length
          · refine goesOn_no1 w6 lp p _ HG6.out HOK6.out ra rc ?_ ja jc
            show (c + 1) * (adv gk rs).per < (adv gk rs).next
            rw [HNX.out.2, HNX.out.1]
            have := HMU.out
            omega
          · refine goesOn_no2 w6 lp p _ HG6.out HOK6.out ra rc ?_ ja jc
            show (adv gk rs).next ≤ (c + 1) * (adv gk rs).per
            rw [HNX.out.2, HNX.out.1]
            have := HMU.out
            omega))
        by_cases cv : vc = k + 1
        · go_wp2_with fail
          refine (HGN.out _ 0).mono ?_
          rintro e w7 ⟨rfl, b7⟩
          have HG7 := (show Hid _ from HG6.out.step b7)
          have HP7 : Hid (Pay w7 w.heap.size v6 ((ss.take (k + 1)).flatten.map (·.1))) := HP6.out.step b7
          have HB7 : Hid (But (fun i => i = lp) w w7) := HB6.out.then b7
          clear b7 HG6 HP6 HB6 HGN
          go_wp2_with fail
          refine (discard_none w7 lp _ ra rc _ 0 (by omega)).mono ?_
          rintro e w8 ⟨rfl, b8⟩
          have HL8 : Hid (Lg w8 lp p ((adv ⟨g.per, lo, lo, fn, g.last, g.ended⟩ ss.flatten).hi (lo + N - 1))) := (show Lg _ _ _ _ from by
            have h1 := HG7.out.step b8
            rw [← HFL.out, HX.out.snoc, adv_app, ← HX.out.eqk, show lo + N - 1 = c by have := HC.out; have := HKN.out; omega]
            exact h1)
          have HP8 : Hid (Pay w8 w.heap.size v6 (ss.flatten.map (·.1))) := (show Pay _ _ _ _ from by
            have h1 := HP7.out.step b8
            rw [HFL.out] at h1
            exact h1)
          have HB8 : Hid (But (fun i => i = lp) w w8) := HB7.out.then b8
          clear b8 HG7 HP7 HB7
          go_wp2_with fail
          refine bodyPost_ret (v := .tuple #[v6, .int .i64 0]) (by simp [results, Tryz.results38, go_sem, asAddr]) rfl ?_
          exact ⟨v6, kp, by rw [dcut_nil hT0.out]; rfl, HKP.out, HP8.out, HL8.out, by rw [dcut_nil hT0.out]; exact HA.out.kel (HB8.out.kel HGW.out), (HB8.out.kel HGW.out).kel, HB8.out.below HBB.out.2 (fun i hi => by have h1 : i = lp := hi; rw [h1]; exact HBB.out.1)⟩
        · go_wp2_with fail
          refine (HGN.out _ (vc - (k + 1))).mono ?_
          rintro e w7 ⟨rfl, b7⟩
          have HG7 := (show Hid _ from HG6.out.step b7)
          have HP7 : Hid (Pay w7 w.heap.size v6 ((ss.take (k + 1)).flatten.map (·.1))) := HP6.out.step b7
          have HB7 : Hid (But (fun i => i = lp) w w7) := HB6.out.then b7
          clear b7 HG6 HP6 HB6 HGN
          go_wp2_with fail
          refine (discard_none w7 lp _ ra rc _ (vc - (k + 1)) (by omega)).mono ?_
          rintro e w8 ⟨rfl, b8⟩
          have HL8 : Hid (Lg w8 lp p ((adv ⟨g.per, lo, lo, fn, g.last, g.ended⟩ ss.flatten).hi (lo + N - 1))) := (show Lg _ _ _ _ from by
            have h1 := HG7.out.step b8
            rw [← HFL.out, HX.out.snoc, adv_app, ← HX.out.eqk, show lo + N - 1 = c by have := HC.out; have := HKN.out; omega]
            exact h1)
          have HP8 : Hid (Pay w8 w.heap.size v6 (ss.flatten.map (·.1))) := (show Pay _ _ _ _ from by
            have h1 := HP7.out.step b8
            rw [HFL.out] at h1
            exact h1)
          have HB8 : Hid (But (fun i => i = lp) w w8) := HB7.out.then b8
          clear b8 HG7 HP7 HB7
          go_wp2_with fail
          refine bodyPost_ret (v := .tuple #[v6, .int .i64 0]) (by simp [results, Tryz.results38, go_sem, asAddr]) rfl ?_
          exact ⟨v6, kp, by rw [dcut_nil hT0.out]; rfl, HKP.out, HP8.out, HL8.out, by rw [dcut_nil hT0.out]; exact HA.out.kel (HB8.out.kel HGW.out), (HB8.out.kel HGW.out).kel, HB8.out.below HBB.out.2 (fun i hi => by have h1 : i = lp := hi; rw [h1]; exact HBB.out.1)⟩
      · have hT0 : Hid (T ≠ []) := ct
        have hrn1 : 0 < rn := by
          rw [HRN.out.1, HTK.out, if_pos (by have := HNN.out.1; have := HKN.out; omega)]
          exact List.length_pos_iff.2 ct
        clear ct
        by_cases cv : vc = k + 1
        · go_wp2_with fail
          refine (goesOn_no0 w6 lp ra rn rc hrn1 hrnb _ 0).mono ?_
          rintro e w7 ⟨rfl, b7⟩
          have HG7 : Hid (Lg w7 lp p ((adv gk rs).hi c)) := HG6.out.step b7
          have HP7 : Hid (Pay w7 w.heap.size v6 ((ss.take (k + 1)).flatten.map (·.1))) := HP6.out.step b7
          have HB7 : Hid (But (fun i => i = lp) w w7) := HB6.out.then b7
          clear b7 HG6 HP6 HB6
          have HK7 : Hid (Kel w w7) := (HB7.out.kel HGW.out).kel
          have HW7 : Hid (Below B w w7) := HB7.out.below HBB.out.2 (fun i hi => by have h1 : i = lp := hi; rw [h1]; exact HBB.out.1)
          have HA7 : Hid (DA w7 B p m x) := HA.out.kel (HB7.out.kel HGW.out)
          go_wp2_with fail
          refine (discard_cut w7 B p m lp x _ HA7.out HG7.out (HT0.out.1.on HW7.out) (by show c ≤ _; omega) kp hkpb ra rn rc hrn1 _ 0 (by omega) HBADT.out.2.1 HBADT.out.2.2).mono ?_
          rintro e w8 ⟨rfl, hd8, hl8, hk8, hb8⟩
          have HL8 : Hid (Lg w8 lp p ((adv ⟨g.per, lo, lo, fn, g.last, g.ended⟩ ss.flatten).hi (lo + N - 1))) := (show Lg _ _ _ _ from by
            rw [← HFL.out, HX.out.snoc, adv_app, ← HX.out.eqk, show lo + N - 1 = c by have := HC.out; have := HKN.out; omega]
            exact hl8)
          have HP8 : Hid (Pay w8 w.heap.size v6 (ss.flatten.map (·.1))) := (show Pay _ _ _ _ from by
            have h1 := HP7.out.kl hk8
            rw [HFL.out] at h1
            exact h1)
          have HD8 : Hid (DA w8 B p m (dcut x (lo + N - 1) kp T).2) := (show DA _ _ _ _ _ from by
            rw [dcut_some hT0.out, show lo + N - 1 = c by have := HC.out; have := HKN.out; omega]
            exact hd8)
          have HK8 : Hid (Kel w w8) := HK7.out.trans hk8
          have HW8 : Hid (Below B w w8) := HW7.out.trans hb8
          have HCD : Hid ((oper x ⟨2, nmS ((adv gk rs).hi c).high, [], kp⟩).1 = (dcut x (lo + N - 1) kp T).1) := (show _ = _ from by
            rw [dcut_some hT0.out, show lo + N - 1 = c by have := HC.out; have := HKN.out; omega]
            rfl)
          rw [HCD.out]
          clear hd8 hl8 hk8 hb8 HG7 HP7 HB7
          obtain ⟨dc, hdc⟩ : ∃ dc, dc = (dcut x (lo + N - 1) kp T).1 := ⟨_, rfl⟩
          have HDC := (show Hid _ from hdc)
          rw [← hdc]
          clear hdc
          go_wp2_with fail
          refine bodyPost_ret (v := .tuple #[v6, .int .i64 (dc : Int)]) (by simp [results, Tryz.results38, go_sem, asAddr]) rfl ?_
          exact ⟨v6, kp, by rw [HDC.out], HKP.out, HP8.out, HL8.out, HD8.out, HK8.out, HW8.out⟩
        · go_wp2_with fail
          refine (goesOn_no0 w6 lp ra rn rc hrn1 hrnb _ (vc - (k + 1))).mono ?_
          rintro e w7 ⟨rfl, b7⟩
          have HG7 : Hid (Lg w7 lp p ((adv gk rs).hi c)) := HG6.out.step b7
          have HP7 : Hid (Pay w7 w.heap.size v6 ((ss.take (k + 1)).flatten.map (·.1))) := HP6.out.step b7
          have HB7 : Hid (But (fun i => i = lp) w w7) := HB6.out.then b7
          clear b7 HG6 HP6 HB6
          have HK7 : Hid (Kel w w7) := (HB7.out.kel HGW.out).kel
          have HW7 : Hid (Below B w w7) := HB7.out.below HBB.out.2 (fun i hi => by have h1 : i = lp := hi; rw [h1]; exact HBB.out.1)
          have HA7 : Hid (DA w7 B p m x) := HA.out.kel (HB7.out.kel HGW.out)
          go_wp2_with fail
          refine (discard_cut w7 B p m lp x _ HA7.out HG7.out (HT0.out.1.on HW7.out) (by show c ≤ _; omega) kp hkpb ra rn rc hrn1 _ (vc - (k + 1)) (by omega) HBADT.out.2.1 HBADT.out.2.2).mono ?_
          rintro e w8 ⟨rfl, hd8, hl8, hk8, hb8⟩
          have HL8 : Hid (Lg w8 lp p ((adv ⟨g.per, lo, lo, fn, g.last, g.ended⟩ ss.flatten).hi (lo + N - 1))) := (show Lg _ _ _ _ from by
            rw [← HFL.out, HX.out.snoc, adv_app, ← HX.out.eqk, show lo + N - 1 = c by have := HC.out; have := HKN.out; omega]
            exact hl8)
          have HP8 : Hid (Pay w8 w.heap.size v6 (ss.flatten.map (·.1))) := (show Pay _ _ _ _ from by
            have h1 := HP7.out.kl hk8
            rw [HFL.out] at h1
            exact h1)
          have HD8 : Hid (DA w8 B p m (dcut x (lo + N - 1) kp T).2) := (show DA _ _ _ _ _ from by
            rw [dcut_some hT0.out, show lo + N - 1 = c by have := HC.out; have := HKN.out; omega]
            exact hd8)
          have HK8 : Hid (Kel w w8) := HK7.out.trans hk8
          have HW8 : Hid (Below B w w8) := HW7.out.trans hb8
          have HCD : Hid ((oper x ⟨2, nmS ((adv gk rs).hi c).high, [], kp⟩).1 = (dcut x (lo + N - 1) kp T).1) := (show _ = _ from by
            rw [dcut_some hT0.out, show lo + N - 1 = c by have := HC.out; have := HKN.out; omega]
            rfl)
          rw [HCD.out]
          clear hd8 hl8 hk8 hb8 HG7 HP7 HB7
          obtain ⟨dc, hdc⟩ : ∃ dc, dc = (dcut x (lo + N - 1) kp T).1 := ⟨_, rfl⟩
          have HDC := (show Hid _ from hdc)
          rw [← hdc]
          clear hdc
          go_wp2_with fail
          refine bodyPost_ret (v := .tuple #[v6, .int .i64 (dc : Int)]) (by simp [results, Tryz.results38, go_sem, asAddr]) rfl ?_
          exact ⟨v6, kp, by rw [HDC.out], HKP.out, HP8.out, HL8.out, HD8.out, HK8.out, HW8.out⟩
end Go.Proofs.YtkmdegmpffgplaaGreatDoor
