/- log XXXVII: goesOn where something is left; discard that cuts. -/
import Derived.Test.YtkmdegmpffgplaaGreatDoorMad
import Derived.Test.YtkmdegmpffgplaaGreatDoorLbe
import Derived.Test.YtkmdegmpffgplaaGreatDoorLbd
import Derived.Test.YtkmdegmpffgplaaGreatDoorLbg
namespace Go.Proofs.YtkmdegmpffgplaaGreatDoor
open Go.RowKit Go.Maps Go.Sort Go.Shelf pk
set_option linter.unusedVariables false
set_option linter.unusedSimpArgs false
/-- all but answers are as they were -/
structure KeE (w w' : World) : Prop where
  os : w'.os = w.os
  tape : w'.tape = w.tape
  output : w'.output = w.output
  size : w.heap.size ≤ w'.heap.size
  blk : ∀ (i : Nat) (o : Obj), w.heap[i]? = some o → (∀ cs z, o ≠ .cells cs 24 z) → w'.heap[i]? = some o
theorem VA.kee2 {w w' : World} {q : Nat} {cs : List Value} {T : TypeId} (h : VA w q cs T) (k : KeE w w') (hT : T ≠ 24) : VA w' q cs T := ⟨k.blk _ _ h.blk (fun _ _ e => by cases e; exact hT rfl)⟩
theorem DA.kee2 {w w' : World} {B p m : Nat} {x : AD} (h : DA w B p m x) (k : KeE w w') : DA w' B p m x := by
  obtain ⟨es, u, hD, hab, hu, hun⟩ := h
  refine ⟨es, u, ⟨hD.va.kee2 k (by decide), hD.mp.blk ?_, fun e he => ?_, hD.ap, hD.lo, hD.fits⟩, hab, ?_, hun⟩
  · obtain ⟨ms, c, hm⟩ := map_blk hD.mp
    exact (k.blk _ _ hm (fun _ _ e => by cases e)).trans hm.symm
  · have f := hD.fil e he
    refine ⟨f.blk.kee2 k (by decide), f.row.blk (fun g hg => ?_), f.lo, f.sy, f.byte, f.nm⟩
    obtain ⟨cs, hc⟩ := row_blk f.row hg
    exact (k.blk _ _ hc (fun _ _ e => by cases e)).trans hc.symm
  · cases hq : x.und with
    | none => rw [hq] at hu; exact hu
    | some o =>
      rw [hq] at hu
      rcases hu with ⟨h1, Bf, e, h2, h3, h4⟩ | ⟨h1, hn, Bf, Bn, e, h2, h3, h4, h5⟩ | ⟨h1, hn, Bd, Ba, Bf, Bb, e, h2, h3, h4, h5, h6, h7⟩ | ⟨h1, Bd, Ba, e, h2, h3, h4, h5⟩
      · exact .inl ⟨h1, Bf, e, h2, h3, h4.kee2 k (by decide)⟩
      · exact .inr (.inl ⟨h1, hn, Bf, Bn, e, h2, h3, h4.kee2 k (by decide), h5.kee2 k (by decide)⟩)
      · exact .inr (.inr (.inr ⟨h1, Bd, Ba, e, h2, h3, h4.kee2 k (by decide), h5.kee2 k (by decide)⟩))
attribute [local go_sem] Oper.semAt_some ext_cell ext_frozen ext_drew ext_of_drew ext_of_drewN ext_setCell ext_lt ext_lt1 ext_lt2 ext_lt3 lt_n2 lt_n3 lt_n4 lt_n5 lt_n6
set_option maxRecDepth 100000 in
set_option maxHeartbeats 4000000 in
theorem discard_cut (w : World) (B p m lp : Nat) (x : AD) (g : LG) (h : DA w B p m x) (hg : Lg w lp p g) (hT : PtB B w) (hhi : g.high ≤ 99999999) (kept : Nat) (hk : kept ≤ 9223372036854775807) (ra : Option Addr) (rn rc : Nat) (hr : 0 < rn) (ja : Option Addr) (jc : Nat) (hjc : jc ≤ 9223372036854775807) (ho : x.ops ≤ 4611686018427387904) (hlf : x.left ≤ 9223372036854775807) :
    Calls Tryz.prog 75 #[.pointer (some ⟨lp, 0, none⟩), .int .i64 (kept : Int), .slice ra rn rc, .slice ja 0 jc] w fun e w' => e = .returned (.int .i64 ((oper x ⟨2, nmS g.high, [], kept⟩).1 : Nat)) ∧ DA w' B p m (oper x ⟨2, nmS g.high, [], kept⟩).2 ∧ Lg w' lp p g ∧ Kel w w' ∧ Below B w w' := by
  have b1 := (Below.refl w.heap.size w).alloc (Nat.le_refl _) (.cells #[.pointer (some ⟨lp, 0, none⟩)] 23)
  have b2 := b1.alloc b1.size (.cells #[.int .i64 0] 24)
  have v1 := (va_new w [.pointer (some ⟨lp, 0, none⟩)] 23).alloc (.cells #[.int .i64 0] 24)
  have v2 := va_new (w.alloc (.cells #[.pointer (some ⟨lp, 0, none⟩)] 23)) [.int .i64 0] 24
  simp only [World.size_alloc] at v2
  have HB2 := (show Hid _ from b2)
  have HV1 := (show Hid _ from v1)
  have HV2 := (show Hid _ from v2)
  have HA : Hid (DA _ B p m x) := h.step b2
  have HG : Hid (Lg _ lp p g) := hg.step b2
  have HPT : Hid (PtB B _) := hT.on (b2.mono h.lt)
  have HLT : Hid (B ≤ w.heap.size) := h.lt
  have HX : Hid (x.ops ≤ 4611686018427387904 ∧ x.left ≤ 9223372036854775807 ∧ kept ≤ 9223372036854775807) := ⟨ho, hlf, hk⟩
  obtain ⟨hi, hhi2⟩ : ∃ hi, hi = g.high := ⟨_, rfl⟩
  have HHI : Hid (hi = g.high) := hhi2
  rw [← hhi2] at hhi ⊢
  clear b1 b2 v1 v2 h hg hT ho hlf hhi2
  refine (callsIn_wide (n := 8)).1 ?_
  have hF : ∀ f, Fence.wide.fn f := fun _ => trivial
  have hF1 := hF 98
  refine callsIn_of_wp_marks Tryz.func75 rfl trivial ?_ rfl
  simp only [Tryz.ntmps75, List.size_toArray, List.length_cons, List.length_nil, Nat.reduceAdd, Nat.reduceSub, Array.replicate_succ, Array.replicate_zero, List.push_toArray, List.append_toArray, List.nil_append, List.cons_append]
  gi_wp2
  obtain ⟨q, hq⟩ : ∃ q, q = w.heap.size := ⟨_, rfl⟩
  rw [← hq] at HV1 HV2 ⊢
  have HQ : Hid (q = w.heap.size) := hq
  clear hq
  generalize (w.alloc (.cells #[.pointer (some ⟨lp, 0, none⟩)] 23)).alloc (.cells #[.int .i64 0] 24) = w0 at *
  refine region_plain_held (S := fun V => VA V q [.pointer (some ⟨lp, 0, none⟩)] 23 ∧ Lg V lp p g) (by kernel_rfl) (by kernel_rfl) (fun h => by obtain ⟨_, _, e, _⟩ := h; cases e) ⟨VA.drew HV1.out, VA.drew HG.out⟩ ?_
  intro hHeld
  have HB3 : Hid (Below w.heap.size w w0.drew) := HB2.out.drew
  have HV3 : Hid (VA w0.drew (q + 1) [.int .i64 0] 24) := VA.drew HV2.out
  have HD3 : Hid (Below w0.heap.size w0 w0.drew) := (Below.refl _ _).drew
  have HA3 : Hid (DA w0.drew B p m x) := HA.out.step HD3.out
  have HP3 : Hid (PtB B w0.drew) := HPT.out.on (HD3.out.mono HA.out.lt)
  clear HB2 HV1 HV2 HA HG HPT HD3
  generalize w0.drew = w1 at *
  refine takeD 0 16 (.pointer (some ⟨lp, 0, none⟩)) (by exact rfl) rfl (by kernel_rfl) (by kernel_rfl) (by kernel_rfl) (fun _ _ _ h => h) (Or.inl ⟨by rfl, ?_⟩) (by assumption) ?_
  · intro wq hS
    have cc := hS.1.cell 0 (v := .pointer (some ⟨lp, 0, none⟩)) rfl
    go_simp
  try simp only [Act.put, List.setIfInBounds_toArray, List.set_cons_zero, List.set_cons_succ]
  refine takeD 1 17 (.pointer (some ⟨lp, 0, none⟩)) (by exact rfl) rfl (by kernel_rfl) (by kernel_rfl) (by kernel_rfl) (fun _ _ _ h => h) (Or.inl ⟨by rfl, ?_⟩) (by assumption) ?_
  · intro wq hS
    go_simp
  try simp only [Act.put, List.setIfInBounds_toArray, List.set_cons_zero, List.set_cons_succ]
  refine takeD 2 18 (.pointer (some ⟨lp, 0, none⟩)) (by exact rfl) rfl (by kernel_rfl) (by kernel_rfl) (by kernel_rfl) (fun _ _ _ h => h) (Or.inl ⟨by rfl, ?_⟩) (by assumption) ?_
  · intro wq hS
    go_simp
  try simp only [Act.put, List.setIfInBounds_toArray, List.set_cons_zero, List.set_cons_succ]
  refine takeD 3 19 (.pointer (some ⟨p, 0, none⟩)) (by exact rfl) rfl (by kernel_rfl) (by kernel_rfl) (by kernel_rfl) (fun _ _ _ h => h) (Or.inl ⟨by rfl, ?_⟩) (by assumption) ?_
  · intro wq hS
    have cc := hS.2.cell 0 (v := .pointer (some ⟨p, 0, none⟩)) rfl
    go_simp
  try simp only [Act.put, List.setIfInBounds_toArray, List.set_cons_zero, List.set_cons_succ]
  refine takeD 4 20 (.pointer (some ⟨lp, 0, none⟩)) (by exact rfl) rfl (by kernel_rfl) (by kernel_rfl) (by kernel_rfl) (fun _ _ _ h => h) (Or.inl ⟨by rfl, ?_⟩) (by assumption) ?_
  · intro wq hS
    have cc := hS.1.cell 0 (v := .pointer (some ⟨lp, 0, none⟩)) rfl
    go_simp
  try simp only [Act.put, List.setIfInBounds_toArray, List.set_cons_zero, List.set_cons_succ]
  refine takeD 5 21 (.pointer (some ⟨lp, 0, none⟩)) (by exact rfl) rfl (by kernel_rfl) (by kernel_rfl) (by kernel_rfl) (fun _ _ _ h => h) (Or.inl ⟨by rfl, ?_⟩) (by assumption) ?_
  · intro wq hS
    go_simp
  try simp only [Act.put, List.setIfInBounds_toArray, List.set_cons_zero, List.set_cons_succ]
  refine takeD 6 22 (.pointer (some ⟨lp, 3, none⟩)) (by exact rfl) rfl (by kernel_rfl) (by kernel_rfl) (by kernel_rfl) (fun _ _ _ h => h) (Or.inl ⟨by rfl, ?_⟩) (by assumption) ?_
  · intro wq hS
    go_simp
  try simp only [Act.put, List.setIfInBounds_toArray, List.set_cons_zero, List.set_cons_succ]
  refine takeD 7 23 (.int .i64 (hi : Int)) (by exact rfl) rfl (by kernel_rfl) (by kernel_rfl) (by kernel_rfl) (fun _ _ _ h => h) (Or.inl ⟨by rfl, ?_⟩) (by assumption) ?_
  · intro wq hS
    have cc := hS.2.cell 3 (v := .int .i64 (hi : Int)) (by rw [HHI.out]; rfl)
    go_simp
  try simp only [Act.put, List.setIfInBounds_toArray, List.set_cons_zero, List.set_cons_succ]
  refine takeD 9 25 (.int .i64 (kept : Int)) (by exact rfl) rfl (by kernel_rfl) (by kernel_rfl) (by kernel_rfl) (fun _ _ _ h => h) (Or.inl ⟨by rfl, ?_⟩) (by assumption) ?_
  · intro wq hS
    go_simp
  try simp only [Act.put, List.setIfInBounds_toArray, List.set_cons_zero, List.set_cons_succ]
  refine wpAnyH_ready (rs := [8]) (by kernel_rfl) (by simp) ?_
  refine AllReadyH.cons (by exact rfl) (fun K hK => ?_) AllReadyH.nil
  go_simp
  refine (sname_ok hi w1 (by omega) HP3.out.pt).mono ?_
  rintro e w2 ⟨rfl, b2⟩
  have HB4 : Hid (Below w.heap.size w w2) := HB3.out.trans (b2.mono HB3.out.size)
  have HV4 := (show Hid _ from HV3.out.step b2)
  have HS4 : Hid (VA w2 q [.pointer (some ⟨lp, 0, none⟩)] 23 ∧ Lg w2 lp p g) := ⟨hHeld.1.step b2, hHeld.2.step b2⟩
  have HA4 : Hid (DA w2 B p m x) := DA.step HA3.out b2
  go_wp2_with fail
  refine hK.out _ _ HS4.out (fun hHeld => ?_)
  clear hK K b2 HB3 HV3 HA3 HP3
  try simp only [Act.put, List.setIfInBounds_toArray, List.set_cons_zero, List.set_cons_succ]
  refine wpAnyH_ready (rs := [10]) (by kernel_rfl) (by simp) ?_
  refine AllReadyH.cons (by exact rfl) (fun K hK => ?_) AllReadyH.nil
  go_simp
  refine (trunc_any w2 B p m x HA4.out ⟨(nmS hi).toArray⟩ (by show (nmS hi).toArray.size ≤ _; simp [nmS_len]) kept HX.out.2.2 HX.out.1 HX.out.2.1).mono ?_
  rintro e w3 ⟨rfl, h3, k3, bB3⟩
  rw [show (⟨(nmS hi).toArray⟩ : ByteArray).data.toList = nmS hi from rfl] at h3 ⊢
  have HA5 : Hid (DA w3 B p m (oper x ⟨2, nmS hi, [], kept⟩).2) := h3
  have HS5 : Hid (VA w3 q [.pointer (some ⟨lp, 0, none⟩)] 23 ∧ Lg w3 lp p g) := ⟨VA.kee HS4.out.1 k3 (by unfold Dt; decide), Lg.kee HS4.out.2 k3⟩
  have HV5 : Hid (VA w3 (q + 1) [.int .i64 0] 24) := VA.kee HV4.out k3 (by unfold Dt; decide)
  have HK5 : Hid (Kel w w3) := (Kee.kel (Kee.bel HB4.out)).trans (Kee.kel k3)
  have HW5 : Hid (Below B w w3) := (HB4.out.mono HLT.out).trans bB3
  obtain ⟨cd, hcd⟩ : ∃ cd, cd = (oper x ⟨2, nmS hi, [], kept⟩).1 := ⟨_, rfl⟩
  have HCD : Hid (cd = (oper x ⟨2, nmS hi, [], kept⟩).1) := hcd
  have hcd18 : cd ≤ 18 := by rw [hcd]; exact oper_le _ _
  rw [← hcd]
  clear hcd h3 k3 bB3
  go_wp2_with fail
  refine hK.out _ _ HS5.out (fun hHeld => ?_)
  clear hK K HB4 HV4 HS4 HA4
  try simp only [Act.put, List.setIfInBounds_toArray, List.set_cons_zero, List.set_cons_succ]
  refine takeD 11 9 (.int .i64 (cd : Int)) (by exact rfl) rfl (by kernel_rfl) (by kernel_rfl) (by kernel_rfl) (fun _ _ _ h => h) (Or.inl ⟨by rfl, ?_⟩) (by assumption) ?_
  · intro wq hS
    go_simp
  try simp only [Act.put, List.setIfInBounds_toArray, List.set_cons_zero, List.set_cons_succ]
  refine wpAnyH_done (by kernel_rfl) ?_ _
  refine NoPanic.normal ?_
  clear hHeld
  have HL5 : Hid (Lg w3 lp p g) := HS5.out.2
  have HQ5 : Hid (q + 1 < w3.heap.size ∧ w.heap.size ≤ w3.heap.size) := ⟨HV5.out.lt, HK5.out.size⟩
  clear HS5
  have REST : Hid (∀ (W : World), But (fun i => i = q + 1) w3 W → DA W B p m (oper x ⟨2, nmS hi, [], kept⟩).2 ∧ Lg W lp p g ∧ Kel w W ∧ Below B w W) := (fun W bt => by
    have kk : KeE w3 W := ⟨bt.os, bt.tape, bt.output, bt.size, fun i o e hn => (bt.block i (hlt_of e) (fun hi => by
      have h1 : i = q + 1 := hi
      rw [h1, HV5.out.blk] at e
      cases e
      exact hn _ _ rfl)).trans e⟩
    have bw : Below w.heap.size w3 W := bt.below HQ5.out.2 (fun i hi => by have h1 : i = q + 1 := hi; have := HQ.out; omega)
    refine ⟨DA.kee2 HA5.out kk, VA.kee2 HL5.out kk (by decide), ⟨Nat.le_trans HK5.out.size kk.size, fun i cs T z e h1 h2 => ?_⟩, HW5.out.trans (bw.mono HLT.out)⟩
    have e3 := HK5.out.blk i cs T z e h1 h2
    refine (bt.block i (hlt_of e3) (fun hi => ?_)).trans e3
    have h3 : i = q + 1 := hi
    have h4 := hlt_of e
    have := HQ.out
    omega)
  by_cases h0 : cd = 0
  · subst h0
    have HC0 : Hid (0 = (oper x ⟨2, nmS hi, [], kept⟩).1) := HCD.out
    gi_wp2
    have endA : ∀ {W : World}, But (fun i => i = q + 1) w3 W → (Ending.returned (.int .i64 0) : Ending) = Ending.returned (.int .i64 ((oper x ⟨2, nmS hi, [], kept⟩).1 : Nat)) ∧ DA W B p m (oper x ⟨2, nmS hi, [], kept⟩).2 ∧ Lg W lp p g ∧ Kel w W ∧ Below B w W := fun {W} bt => by
      rw [← HC0.out]
      exact ⟨rfl, REST.out _ bt⟩
    refine CallsIn.mono (back_in Fence.wide 7 trivial rfl _ _ _ _) ?_
    rintro e w' ⟨rfl, rfl⟩
    have HV6 : Hid (VA (w3.alloc (.cells #[.slice ja 0 jc] 47)) (q + 1) [.int .i64 0] 24) := HV5.out.alloc _
    have HJ6 : Hid (VA (w3.alloc (.cells #[.slice ja 0 jc] 47)) w3.heap.size [.slice ja 0 jc] 47) := va_new w3 _ _
    have HB6 : Hid (Below w3.heap.size w3 (w3.alloc (.cells #[.slice ja 0 jc] 47))) := (Below.refl _ _).alloc (Nat.le_refl _) _
    obtain ⟨jb, hjb⟩ : ∃ jb, jb = w3.heap.size := ⟨_, rfl⟩
    have HJB : Hid (jb = w3.heap.size) := hjb
    rw [← hjb] at HJ6 ⊢
    clear hjb
    generalize w3.alloc (.cells #[.slice ja 0 jc] 47) = W6 at *
    gi_wp2
    refine wpIn_rangeFunc_ownH rfl (by omega) (gf := 115) (lb := #[.pointer (some ⟨jb, 0, none⟩)]) rfl trivial (enters_of Tryz.func115 (by kernel_rfl) rfl)
      (back_stops Fence.wide (8 - 1) trivial rfl (by omega) (jb) W6.heap.size jc 0 ja (P := fun _ => True) [] 0 (fun _ => trivial) rfl (by omega) W6 HJ6.out.lt (Nat.le_refl _) (HJ6.out.cell 0 rfl) ⟨by omega, hjc⟩ (fun h => absurd h (by omega))) belowK_t (belowK_b (Nat.le_refl _)) (Below.refl _ _) (fun _ => rfl)
      (fun pre W => VA W (q + 1) [.int .i64 0] 24 ∧ Below w3.heap.size w3 W)
      (fun c pre W => False)
      (OwnFrom.and (Own.from (fun s X Y row hs hg hr => hs.kee (kee_grown hg hr) (by unfold Dt; decide)) _) (ownFrom_below (Nat.le_refl _) (HB6.out.size)))
      (fun _ _ _ _ _ h _ _ => h)
      ⟨HV6.out, HB6.out⟩
      (fun y a' W => True)
      (fun y a' _ X Y row hs hg hr => trivial)
      ?assign ?body ?done ?stop
    case assign =>
      rintro l pre y W K ⟨hc, hB⟩ hK
      obtain ⟨⟨y1, y2⟩, hy⟩ := y
      have HCC := (show Hid _ from hc)
      unfold encK
      dsimp only
      clear hc
      gi_wp2
      exact hK _ _ (KeepsFrom.refl _ _) (Below.refl _ _) ⟨HCC.out, hB⟩ trivial
    case body =>
      rintro l pre y a' W hl' ⟨r, hr⟩ ⟨hc, hB⟩ _ hlt
      exact absurd hlt (Nat.not_lt_zero _)
    case done =>
      rintro D ys W hD hys ⟨hc, hB⟩ hK
      have HK := (show Hid _ from hK)
      have HCC := (show Hid _ from hc)
      have FB := (show Hid _ from hB)
      clear hc hB hK hys
      have y1 := HCC.out.cell 0 (v := .int .i64 0) rfl
      have f1 := HCC.out.free 0
      gi_wp2
      clear y1 f1
      have V1 := HCC.out.set 0 (.int .i64 0)
      have U1 := upd_set W (q + 1) 0 (.int .i64 0)
      have kk := keeps_upd HCC.out U1
      have hK' := kk.same D _ HK.out rfl
      have bt : But (fun i => i = q + 1) w3 (W.setCell ⟨q + 1, 0, none⟩ (.int .i64 0)) := (below_but FB.out _).trans U1.but (fun _ _ h => h)
      have HBT := (show Hid _ from bt)
      have HFS := (show Hid _ from FB.out.size)
      generalize W.setCell ⟨q + 1, 0, none⟩ (.int .i64 0) = W9 at *
      clear U1 kk bt
      refine ⟨by simp, .inl ⟨_, _, rfl, run_takeDeferred hK', ?_⟩⟩
      have kg := kee_grown (grownBy_putObj' W9 D (.deferred none)) (fun r e => by cases e; exact ⟨_, hK', rfl⟩)
      have z1 := (V1.kee kg (by unfold Dt; decide)).cell 0 (v := .int .i64 0) rfl
      have hDW : w3.heap.size ≤ D := Nat.le_trans HB6.out.size hD
      have bg : But (fun i => i = q + 1) w3 (W9.putObj D (.deferred none)) := HBT.out.trans (⟨(grownBy_putObj' W9 D (.deferred none)).os, (grownBy_putObj' W9 D (.deferred none)).tape, (grownBy_putObj' W9 D (.deferred none)).output, (grownBy_putObj' W9 D (.deferred none)).size, fun i hi hx => (grownBy_putObj' W9 D (.deferred none)).block i hi (fun e => hx (by cases e; rfl))⟩ : But (fun i => i = D) W9 (W9.putObj D (.deferred none))) (fun i hi h => absurd hi (by have h1 : i = D := h; omega))
      have kl : Kel w3 (W9.putObj D (.deferred none)) → True := fun _ => trivial
      refine ⟨.int .i64 0, ?_, ?_⟩
      · simp [results, Tryz.results75, go_sem, asAddr, z1]
      · exact endA bg
    case stop =>
      rintro D c pre V _ _ h _
      exact h.elim
  · have hz1 : ((cd : Int) == 0) = false := by simp; omega
    have hz2 : ((cd : Int) != 0) = true := by simp; omega
    have hz3 : ((cd : Int) = 0) = False := by simp; omega
    have y1 := HV5.out.cell 0 (v := .int .i64 0) rfl
    have f1 := HV5.out.free 0
    gi_wp2
    have U1 := upd_set w3 (q + 1) 0 (.int .i64 (cd : Int))
    have V1 := HV5.out.set 0 (.int .i64 (cd : Int))
    have bt : But (fun i => i = q + 1) w3 (w3.setCell ⟨q + 1, 0, none⟩ (.int .i64 (cd : Int))) := U1.but
    have hfin := REST.out _ bt
    generalize w3.setCell ⟨q + 1, 0, none⟩ (.int .i64 (cd : Int)) = W9 at *
    have z1 := V1.cell 0 (v := .int .i64 (cd : Int)) rfl
    refine ⟨.int .i64 (cd : Int), ?_, ?_⟩
    · simp [results, Tryz.results75, go_sem, asAddr, z1]
    · exact ⟨by rw [HCD.out], hfin⟩
end Go.Proofs.YtkmdegmpffgplaaGreatDoor
