/- log XX: read of a whole log. -/
import Derived.Test.YtkmdegmpffgplaaGreatDoorLbr
import Derived.Test.YtkmdegmpffgplaaGreatDoorLbo
namespace Go.Proofs.YtkmdegmpffgplaaGreatDoor
open Go.RowKit Go.Maps Go.Sort Go.Shelf pk
set_option linter.unusedVariables false
set_option linter.unusedSimpArgs false
/-- the files of a whole log: a file a segment, all but the last full -/
structure Whole (x : AD) (per lo : Nat) (ss : List (List Rc)) : Prop where
  file : ∀ i rs, ss[i]? = some rs → ∃ t, lk x.fs (nmS (lo + i)) = some t ∧ flat t.2.1 = segB ((lo + i) * per + 1) rs
  full : ∀ i rs, ss[i]? = some rs → i + 1 < ss.length → rs.length = per
  last : ∀ rs ∈ ss, rs.length ≤ per ∧ ∀ r ∈ rs, Rok r
theorem whole_len {x : AD} {per lo : Nat} {ss : List (List Rc)} (h : Whole x per lo ss) : ∀ k, k < ss.length → (ss.take k).flatten.length = k * per
  | 0, _ => by simp
  | k + 1, hk => by
    obtain ⟨rs, hrs⟩ : ∃ rs, ss[k]? = some rs := ⟨_, List.getElem?_eq_getElem (by omega)⟩
    rw [List.take_add_one, hrs, List.flatten_append, List.length_append, whole_len h k (by omega)]
    have := h.full k rs hrs (by omega)
    simp [this, Nat.add_mul]
structure Atk (x : AD) (g0 : LG) (per lo : Nat) (ss : List (List Rc)) (k : Nat) (rs : List Rc) (t : List UInt8 × List (List Nat) × Nat) (gk : LG) : Prop where
  eqk : gk = adv g0 (ss.take k).flatten
  lk : lk x.fs (nmS (lo + k)) = some t
  byt : flat t.2.1 = segB gk.next rs
  lkd : Lkd gk rs
  rok : ∀ r ∈ rs, Rok r
  len : rs.length ≤ per
  next : gk.next = (lo + k) * per + 1
  full : k + 1 < ss.length → rs.length = per
  snoc : (ss.take (k + 1)).flatten = (ss.take k).flatten ++ rs
  per : gk.per = per ∧ gk.low = g0.low ∧ gk.ended = g0.ended
  last : gk.last.length = 32 ∧ By gk.last
theorem whole_at {x : AD} {per lo : Nat} {ss : List (List Rc)} (h : Whole x per lo ss) (g0 : LG) (hn : g0.next = lo * per + 1) (hp : g0.per = per) (hl : g0.last.length = 32 ∧ By g0.last) (hL : Lkd g0 ss.flatten) (k : Nat) (hk : k < ss.length) : ∃ rs t gk, Atk x g0 per lo ss k rs t gk := by
  obtain ⟨rs, hrs⟩ : ∃ rs, ss[k]? = some rs := ⟨_, List.getElem?_eq_getElem hk⟩
  obtain ⟨t, h1, h2⟩ := h.file k rs hrs
  obtain ⟨p1, p2, p3, p4, p5⟩ := adv_per g0 (ss.take k).flatten
  have hnx : (adv g0 (ss.take k).flatten).next = (lo + k) * per + 1 := by rw [p5, whole_len h k hk, hn, Nat.add_mul]; omega
  have hsn : (ss.take (k + 1)).flatten = (ss.take k).flatten ++ rs := by rw [List.take_add_one, hrs, List.flatten_append]; simp
  have hm : rs ∈ ss := List.mem_of_getElem? hrs
  have hsp : ss.flatten = (ss.take k).flatten ++ (rs ++ (ss.drop (k + 1)).flatten) := by
    rw [← List.append_assoc, ← hsn, ← List.flatten_append, List.take_append_drop]
  rw [hsp, lkd_app, lkd_app] at hL
  refine ⟨rs, t, _, rfl, h1, by rw [hnx]; exact h2, hL.2.1, (h.last rs hm).2, (h.last rs hm).1, hnx, h.full k rs hrs, hsn, ⟨p1.trans hp, p2, p4⟩, adv_last _ _ hl (fun r hr => ?_)⟩
  obtain ⟨rs', h3, h4⟩ := List.mem_flatten.1 hr
  exact (h.last rs' (List.mem_of_mem_take h3)).2 r h4
set_option maxRecDepth 100000 in
set_option maxHeartbeats 8000000 in
theorem readL_ok (w : World) (B p m lp lo N : Nat) (x : AD) (g : LG) (ss : List (List Rc)) (h : DA w B p m x) (hon : x.on = true) (hg : Lg w lp p g) (hB : B ≤ lp) (ho : g.ok) (hgl : g.last.length = 32 ∧ By g.last) (hT : PtB B w) (hTb : TbB B w) (va : Option Addr) (vc : Nat) (hv : Sl KI w (.slice va N vc) ((List.range N).map (lo + ·))) (hne : ∀ b o, va = some ⟨b, o, none⟩ → b ≠ lp) (hN : ss.length = N) (hN0 : 0 < N) (hN1 : N ≤ 100) (hlo : lo + N ≤ 4000000) (hW : Whole x g.per lo ss) (hk : Lkd ⟨g.per, lo, lo, lo * g.per + 1, g.last, g.ended⟩ ss.flatten) :
    Calls Tryz.prog 38 #[.pointer (some ⟨lp, 0, none⟩), .slice va N vc] w fun e w' => ∃ u, e = .returned (.tuple #[u, .int .i64 0]) ∧ Pay w' w.heap.size u (ss.flatten.map (·.1)) ∧ Lg w' lp p ((adv ⟨g.per, lo, lo, lo * g.per + 1, g.last, g.ended⟩ ss.flatten).hi (lo + N - 1)) ∧ But (fun i => i = lp) w w' := by
  have HA : Hid (DA w B p m x) := h
  have HGW : Hid (Lg w lp p g) := hg
  have HT0 : Hid (PtB B w ∧ TbB B w) := ⟨hT, hTb⟩
  have HS : Hid (Sl KI w (.slice va N vc) ((List.range N).map (lo + ·))) := hv
  have HNN : Hid (ss.length = N ∧ 0 < N ∧ N ≤ 100 ∧ lo + N ≤ 4000000) := ⟨hN, hN0, hN1, hlo⟩
  have HO : Hid (g.ok ∧ g.last.length = 32 ∧ By g.last) := ⟨ho, hgl⟩
  have HBB : Hid (B ≤ lp ∧ B ≤ w.heap.size) := ⟨hB, h.lt⟩
  have hcap : N ≤ vc ∧ vc ≤ 9223372036854775807 := by
    obtain ⟨_, c', ec, e1, e2, _⟩ := hv.form
    injection ec with _ _ e3
    rw [List.length_map, List.length_range] at e1
    omega
  obtain ⟨vb, vo, rfl, hvb, hcl⟩ := hv.at 0 lo (by rw [List.getElem?_map, List.getElem?_range (by omega)]; rfl)
  have HROW : Hid (∀ k, k < N → w.cell? ⟨vb, vo + k, none⟩ = some (.int .i64 ((lo + k : Nat) : Int))) := fun k hk => by
    obtain ⟨b', o', e', _, hc'⟩ := hv.at k (lo + k) (by rw [List.getElem?_map, List.getElem?_range hk]; rfl)
    cases e'
    have := hc' 0 (.int .i64 ((lo + k : Nat) : Int)) rfl
    rw [show k * KI.k = k from Nat.mul_one k, Nat.add_zero] at this
    exact this
  have HVB : Hid (vb < w.heap.size ∧ vb ≠ lp) := ⟨hvb, hne vb vo rfl⟩
  have c0 : w.cell? ⟨vb, vo, none⟩ = some (.int .i64 (lo : Int)) := by have := hcl 0 (.int .i64 (lo : Int)) rfl; simpa using this
  have y2 := hg.cell 2 (v := .int .i64 (g.low : Int)) rfl
  have f2 := hg.free 2
  have dN : (0 : Int) < (N : Int) := by omega
  obtain ⟨fn, hfn⟩ : ∃ fn, fn = lo * g.per + 1 := ⟨_, rfl⟩
  rw [← hfn] at hk ⊢
  have HEQ : Hid (fn = lo * g.per + 1) := hfn
  have HAT := (show Hid _ from whole_at hW ⟨g.per, lo, lo, fn, g.last, g.ended⟩ hfn rfl hgl hk)
  clear h hg hT hTb hv hW hk ho hgl hcl hne hvb hB
  go_enter Tryz.func38, Tryz.ntmps38
  go_upto_region 3 with fail
  have HG : Hid (Lg (w.setCell ⟨lp, 2, none⟩ (.int .i64 (lo : Int))) lp p { g with low := lo }) := HGW.out.set 2 (.int .i64 (lo : Int))
  have HBU : Hid (But (fun i => i = lp) w (w.setCell ⟨lp, 2, none⟩ (.int .i64 (lo : Int)))) := (But.refl _ _).upd (upd_set w lp 2 _)
  clear y2 f2 c0
  have HFO := (show Hid _ from fun w' (k : Lg w' lp p { g with low := lo }) => firstOf_ok w' lp p { g with low := lo } k ⟨HO.out.1.per, by have := HNN.out; show lo ≤ _; omega, HO.out.1.high, HO.out.1.next⟩ lo (by have := HNN.out; omega))
  have hfn2 : fn = lo * ({ g with low := lo } : LG).per + 1 := hfn
  rw [← hfn2] at HFO
  have HLOW : Hid ((({ g with low := lo, high := lo, next := fn } : LG).cells p)[2]? = some (.int .i64 (lo : Int))) := (show _ = _ from rfl)
  have HY2 : Hid ((w.setCell ⟨lp, 2, none⟩ (.int .i64 (lo : Int))).drew.cell? ⟨lp, 2, none⟩ = some (.int .i64 (lo : Int))) := HG.out.cell 2 rfl
  clear hfn hfn2
  generalize w.setCell ⟨lp, 2, none⟩ (.int .i64 (lo : Int)) = w0 at *
  refine wp_region_noPanic ?_
  refine wp_region_held_drew (S := fun V => V.cell? ⟨lp, 2, none⟩ = some (.int .i64 (lo : Int))) (by kernel_rfl) HY2.out ?_
  intro hHeld
  have HB0 : Hid (But (fun i => i = lp) w w0.drew) := ⟨HBU.out.os, HBU.out.tape, HBU.out.output, HBU.out.size, HBU.out.block⟩
  have HG0 : Hid (Lg w0.drew lp p ({ g with low := lo })) := VA.drew HG.out
  clear HBU HG HY2
  generalize w0.drew = w1 at *
  refine takeD 0 23 (.pointer (some ⟨lp, 0, none⟩)) (by exact rfl) rfl (by kernel_rfl) (by kernel_rfl) (by kernel_rfl) (fun _ _ _ h => h) (Or.inl ⟨by rfl, ?_⟩) (by assumption) ?_
  · intro wq hS
    go_simp
  try simp only [Act.put, List.setIfInBounds_toArray, List.set_cons_zero, List.set_cons_succ]
  refine takeD 1 24 (.pointer (some ⟨lp, 0, none⟩)) (by exact rfl) rfl (by kernel_rfl) (by kernel_rfl) (by kernel_rfl) (fun _ _ _ h => h) (Or.inl ⟨by rfl, ?_⟩) (by assumption) ?_
  · intro wq hS
    go_simp
  try simp only [Act.put, List.setIfInBounds_toArray, List.set_cons_zero, List.set_cons_succ]
  refine takeD 2 25 (.pointer (some ⟨lp, 0, none⟩)) (by exact rfl) rfl (by kernel_rfl) (by kernel_rfl) (by kernel_rfl) (fun _ _ _ h => h) (Or.inl ⟨by rfl, ?_⟩) (by assumption) ?_
  · intro wq hS
    go_simp
  try simp only [Act.put, List.setIfInBounds_toArray, List.set_cons_zero, List.set_cons_succ]
  refine takeD 3 26 (.pointer (some ⟨lp, 0, none⟩)) (by exact rfl) rfl (by kernel_rfl) (by kernel_rfl) (by kernel_rfl) (fun _ _ _ h => h) (Or.inl ⟨by rfl, ?_⟩) (by assumption) ?_
  · intro wq hS
    go_simp
  try simp only [Act.put, List.setIfInBounds_toArray, List.set_cons_zero, List.set_cons_succ]
  refine takeD 4 27 (.pointer (some ⟨lp, 2, none⟩)) (by exact rfl) rfl (by kernel_rfl) (by kernel_rfl) (by kernel_rfl) (fun _ _ _ h => h) (Or.inl ⟨by rfl, ?_⟩) (by assumption) ?_
  · intro wq hS
    go_simp
  try simp only [Act.put, List.setIfInBounds_toArray, List.set_cons_zero, List.set_cons_succ]
  refine takeD 5 28 (.int .i64 (lo : Int)) (by exact rfl) rfl (by kernel_rfl) (by kernel_rfl) (by kernel_rfl) (fun _ _ _ h => h) (Or.inl ⟨by rfl, ?_⟩) (by assumption) ?_
  · intro wq hS
    have c := hS
    go_simp
  try simp only [Act.put, List.setIfInBounds_toArray, List.set_cons_zero, List.set_cons_succ]
  refine takeD 6 29 (.pointer (some ⟨lp, 0, none⟩)) (by exact rfl) rfl (by kernel_rfl) (by kernel_rfl) (by kernel_rfl) (fun _ _ _ h => h) (Or.inl ⟨by rfl, ?_⟩) (by assumption) ?_
  · intro wq hS
    go_simp
  try simp only [Act.put, List.setIfInBounds_toArray, List.set_cons_zero, List.set_cons_succ]
  refine takeD 7 30 (.pointer (some ⟨lp, 0, none⟩)) (by exact rfl) rfl (by kernel_rfl) (by kernel_rfl) (by kernel_rfl) (fun _ _ _ h => h) (Or.inl ⟨by rfl, ?_⟩) (by assumption) ?_
  · intro wq hS
    go_simp
  try simp only [Act.put, List.setIfInBounds_toArray, List.set_cons_zero, List.set_cons_succ]
  refine takeD 8 31 (.pointer (some ⟨lp, 0, none⟩)) (by exact rfl) rfl (by kernel_rfl) (by kernel_rfl) (by kernel_rfl) (fun _ _ _ h => h) (Or.inl ⟨by rfl, ?_⟩) (by assumption) ?_
  · intro wq hS
    go_simp
  try simp only [Act.put, List.setIfInBounds_toArray, List.set_cons_zero, List.set_cons_succ]
  refine takeD 9 32 (.pointer (some ⟨lp, 2, none⟩)) (by exact rfl) rfl (by kernel_rfl) (by kernel_rfl) (by kernel_rfl) (fun _ _ _ h => h) (Or.inl ⟨by rfl, ?_⟩) (by assumption) ?_
  · intro wq hS
    go_simp
  try simp only [Act.put, List.setIfInBounds_toArray, List.set_cons_zero, List.set_cons_succ]
  refine takeD 10 33 (.int .i64 (lo : Int)) (by exact rfl) rfl (by kernel_rfl) (by kernel_rfl) (by kernel_rfl) (fun _ _ _ h => h) (Or.inl ⟨by rfl, ?_⟩) (by assumption) ?_
  · intro wq hS
    have c := hS
    go_simp
  try simp only [Act.put, List.setIfInBounds_toArray, List.set_cons_zero, List.set_cons_succ]
  refine wpAnyH_ready (rs := [11]) (by kernel_rfl) (by simp) ?_
  refine AllReadyH.cons (by exact rfl) (fun K hK => ?_) AllReadyH.nil
  go_simp
  refine (HFO.out w1 HG0.out).mono ?_
  rintro e w1b ⟨rfl, rfl⟩
  skip
  go_wp2_with fail
  refine hK.out _ _ hHeld (fun hHeld => ?_)
  clear hK K 
  try simp only [Act.put, List.setIfInBounds_toArray, List.set_cons_zero, List.set_cons_succ]
  refine takeD 12 35 (.pointer (some ⟨lp, 0, none⟩)) (by exact rfl) rfl (by kernel_rfl) (by kernel_rfl) (by kernel_rfl) (fun _ _ _ h => h) (Or.inl ⟨by rfl, ?_⟩) (by assumption) ?_
  · intro wq hS
    go_simp
  try simp only [Act.put, List.setIfInBounds_toArray, List.set_cons_zero, List.set_cons_succ]
  refine takeD 13 36 (.pointer (some ⟨lp, 3, none⟩)) (by exact rfl) rfl (by kernel_rfl) (by kernel_rfl) (by kernel_rfl) (fun _ _ _ h => h) (Or.inl ⟨by rfl, ?_⟩) (by assumption) ?_
  · intro wq hS
    go_simp
  try simp only [Act.put, List.setIfInBounds_toArray, List.set_cons_zero, List.set_cons_succ]
  have y3 := HG0.out.cell 3 (v := .int .i64 (({ g with low := lo }).high : Int)) rfl
  have f3 := HG0.out.free 3
  have V2 : Lg (w1b.setCell ⟨lp, 3, none⟩ (.int .i64 (lo : Int))) lp p { { g with low := lo } with high := lo } := HG0.out.set 3 (.int .i64 (lo : Int))
  have HB2 : Hid (But (fun i => i = lp) w (w1b.setCell ⟨lp, 3, none⟩ (.int .i64 (lo : Int)))) := HB0.out.upd (upd_set w1b lp 3 _)
  have HL2 : Hid ((w1b.setCell ⟨lp, 3, none⟩ (.int .i64 (lo : Int))).cell? ⟨lp, 2, none⟩ = some (.int .i64 (lo : Int))) := V2.cell 2 (v := .int .i64 (lo : Int)) HLOW.out
  have HV2 := (show Hid _ from V2)
  clear V2
  refine wpAnyH_ready (rs := [14]) (by kernel_rfl) (by simp) ?_
  refine AllReadyH.cons (by exact rfl) (fun K hK => ?_) AllReadyH.nil
  go_simp
  refine hK.out _ _ HL2.out (fun hHeld => ?_)
  clear hK K y3 f3
  try simp only [Act.put, List.setIfInBounds_toArray, List.set_cons_zero, List.set_cons_succ]
  generalize w1b.setCell ⟨lp, 3, none⟩ (.int .i64 (lo : Int)) = w2 at *
  refine takeD 15 37 (.pointer (some ⟨lp, 0, none⟩)) (by exact rfl) rfl (by kernel_rfl) (by kernel_rfl) (by kernel_rfl) (fun _ _ _ h => h) (Or.inl ⟨by rfl, ?_⟩) (by assumption) ?_
  · intro wq hS
    go_simp
  try simp only [Act.put, List.setIfInBounds_toArray, List.set_cons_zero, List.set_cons_succ]
  refine takeD 16 38 (.pointer (some ⟨lp, 4, none⟩)) (by exact rfl) rfl (by kernel_rfl) (by kernel_rfl) (by kernel_rfl) (fun _ _ _ h => h) (Or.inl ⟨by rfl, ?_⟩) (by assumption) ?_
  · intro wq hS
    go_simp
  try simp only [Act.put, List.setIfInBounds_toArray, List.set_cons_zero, List.set_cons_succ]
  have y4 := HV2.out.cell 4 (v := .int .i64 (({ g with low := lo }).next : Int)) rfl
  have f4 := HV2.out.free 4
  have V3 : Lg (w2.setCell ⟨lp, 4, none⟩ (.int .i64 (fn : Int))) lp p { { g with low := lo } with high := lo, next := fn } := HV2.out.set 4 (.int .i64 (fn : Int))
  have HB3 : Hid (But (fun i => i = lp) w (w2.setCell ⟨lp, 4, none⟩ (.int .i64 (fn : Int)))) := HB2.out.upd (upd_set w2 lp 4 _)
  have HL3 : Hid ((w2.setCell ⟨lp, 4, none⟩ (.int .i64 (fn : Int))).cell? ⟨lp, 2, none⟩ = some (.int .i64 (lo : Int))) := V3.cell 2 (v := .int .i64 (lo : Int)) HLOW.out
  have HV3 := (show Hid _ from V3)
  clear V3
  refine wpAnyH_ready (rs := [17]) (by kernel_rfl) (by simp) ?_
  refine AllReadyH.cons (by exact rfl) (fun K hK => ?_) AllReadyH.nil
  go_simp
  refine hK.out _ _ HL3.out (fun hHeld => ?_)
  clear hK K y4 f4
  try simp only [Act.put, List.setIfInBounds_toArray, List.set_cons_zero, List.set_cons_succ]
  generalize w2.setCell ⟨lp, 4, none⟩ (.int .i64 (fn : Int)) = w3 at *
  refine wpAnyH_done (by kernel_rfl) ?_ _
  refine NoPanic.normal ?_
  clear hHeld HB0 HG0 HB2 HL2 HV2 HL3
  have HV3' : Hid (Lg w3 lp p (LG.hi ⟨g.per, lo, lo, fn, g.last, g.ended⟩ lo)) := HV3.out
  clear HV3 HFO HLOW
  go_wp2_with fail
  go_loopw [6, 41] (fun u i wr => ∃ (k : Nat) (hh : Nat), k < N ∧ i = .int .i64 (k : Int) ∧ Hid (Lg wr lp p ((adv ⟨g.per, lo, lo, fn, g.last, g.ended⟩ (ss.take k).flatten).hi hh)) ∧ Hid (Pay wr w.heap.size u ((ss.take k).flatten.map (·.1))) ∧ Hid (But (fun i => i = lp) w wr)) (fun _ i _ => N - (intOf i).toNat)
  case atStart => exact ⟨0, lo, HNN.out.2.1, rfl, HV3', ⟨[], rfl, own_nil KT _ _, fun t ht => by cases ht⟩, HB3⟩
  case round =>
    obtain ⟨k, hh, hk, rfl, HL, HPY, HBU⟩ := hrel
    obtain ⟨rs, t, gk, hat⟩ := HAT.out k (by rw [HNN.out.1]; exact hk)
    have HX : Hid (Atk x ⟨g.per, lo, lo, fn, g.last, g.ended⟩ g.per lo ss k rs t gk) := hat
    rw [← hat.eqk] at HL
    clear hat
    have yk : wr.cell? ⟨vb, vo + k, none⟩ = some (.int .i64 ((lo + k : Nat) : Int)) := by
      rw [← HROW.out k hk]
      exact World.cell?_of_block (a := ⟨vb, vo + k, none⟩) (HBU.out.block vb HVB.out.1 HVB.out.2)
    obtain ⟨c, hc⟩ : ∃ c, c = lo + k := ⟨_, rfl⟩
    rw [← hc] at yk
    have HC : Hid (c = lo + k) := hc
    have hcb : c ≤ 4000000 := by have := HNN.out; omega
    clear hc
    have y3 := HL.out.cell 3 (v := .int .i64 ((hh : Nat) : Int)) rfl
    have f3 := HL.out.free 3
    have dk : (k : Int) < (N : Int) := by omega
    have hN1 : N ≤ 100 := HNN.out.2.2.1
    go_upto_region 9 with fail
    have HL1 : Hid (Lg (wr.setCell ⟨lp, 3, none⟩ (.int .i64 (c : Int))) lp p (gk.hi c)) := HL.out.set 3 (.int .i64 (c : Int))
    have HB1 : Hid (But (fun i => i = lp) w (wr.setCell ⟨lp, 3, none⟩ (.int .i64 (c : Int)))) := HBU.out.upd (upd_set wr lp 3 _)
    have HP1 : Hid (Pay (wr.setCell ⟨lp, 3, none⟩ (.int .i64 (c : Int))) w.heap.size u6 ((ss.take k).flatten.map (·.1))) := HPY.out.kel (KeL.upd (upd_set wr lp 3 _) HL.out)
    clear HL HBU HPY yk y3 f3
    generalize wr.setCell ⟨lp, 3, none⟩ (.int .i64 (c : Int)) = w1 at *
    have HA1 : Hid (DA w1 B p m x) := HA.out.kel (HB1.out.kel HGW.out)
    have HT1 : Hid (PtB B w1 ∧ TbB B w1) := ⟨HT0.out.1.on (HB1.out.below HBB.out.2 (fun i hi => by have h1 : i = lp := hi; rw [h1]; exact HBB.out.1)), HT0.out.2.on (HB1.out.below HBB.out.2 (fun i hi => by have h1 : i = lp := hi; rw [h1]; exact HBB.out.1))⟩
    refine wp_region_noPanic ?_
    refine wp_region_held_drew (S := fun V => V.cell? ⟨lp, 0, none⟩ = some (.pointer (some ⟨p, 0, none⟩))) (by kernel_rfl) (HL1.out.cell 0 rfl) ?_
    intro hHeld
    have HD : Hid (Below w1.heap.size w1 w1.drew) := (Below.refl _ _).drew
    generalize w1.drew = w2 at *
    refine takeD 0 51 (.pointer (some ⟨lp, 0, none⟩)) (by exact rfl) rfl (by kernel_rfl) (by kernel_rfl) (by kernel_rfl) (fun _ _ _ h => h) (Or.inl ⟨by rfl, ?_⟩) (by assumption) ?_
    · intro wq hS
      go_simp
    try simp only [Act.put, List.setIfInBounds_toArray, List.set_cons_zero, List.set_cons_succ]
    refine takeD 1 52 (.pointer (some ⟨lp, 0, none⟩)) (by exact rfl) rfl (by kernel_rfl) (by kernel_rfl) (by kernel_rfl) (fun _ _ _ h => h) (Or.inl ⟨by rfl, ?_⟩) (by assumption) ?_
    · intro wq hS
      go_simp
    try simp only [Act.put, List.setIfInBounds_toArray, List.set_cons_zero, List.set_cons_succ]
    refine takeD 2 53 (.pointer (some ⟨lp, 0, none⟩)) (by exact rfl) rfl (by kernel_rfl) (by kernel_rfl) (by kernel_rfl) (fun _ _ _ h => h) (Or.inl ⟨by rfl, ?_⟩) (by assumption) ?_
    · intro wq hS
      go_simp
    try simp only [Act.put, List.setIfInBounds_toArray, List.set_cons_zero, List.set_cons_succ]
    refine takeD 3 54 (.pointer (some ⟨p, 0, none⟩)) (by exact rfl) rfl (by kernel_rfl) (by kernel_rfl) (by kernel_rfl) (fun _ _ _ h => h) (Or.inl ⟨by rfl, ?_⟩) (by assumption) ?_
    · intro wq hS
      have cc := hS
      go_simp
    try simp only [Act.put, List.setIfInBounds_toArray, List.set_cons_zero, List.set_cons_succ]
    refine takeD 4 55 (.int .i64 (c : Int)) (by exact rfl) rfl (by kernel_rfl) (by kernel_rfl) (by kernel_rfl) (fun _ _ _ h => h) (Or.inl ⟨by rfl, ?_⟩) (by assumption) ?_
    · intro wq hS
      go_simp
    try simp only [Act.put, List.setIfInBounds_toArray, List.set_cons_zero, List.set_cons_succ]
    refine wpAnyH_ready (rs := [5]) (by kernel_rfl) (by simp) ?_
    refine AllReadyH.cons (by exact rfl) (fun K hK => ?_) AllReadyH.nil
    go_simp
    refine (sname_ok c w2 (by omega) (HT1.out.1.on (HD.out.mono HA1.out.lt)).pt).mono ?_
    rintro e w3 ⟨rfl, b3⟩
    have HD3 : Hid (Below w1.heap.size w1 w3) := HD.out.trans (b3.mono HD.out.size)
    go_wp2_with fail
    refine hK.out _ _ ((HL1.out.step HD3.out).cell 0 rfl) (fun hHeld => ?_)
    clear hK K b3 HD
    try simp only [Act.put, List.setIfInBounds_toArray, List.set_cons_zero, List.set_cons_succ]
    refine wpAnyH_ready (rs := [6]) (by kernel_rfl) (by simp) ?_
    refine AllReadyH.cons (by exact rfl) (fun K hK => ?_) AllReadyH.nil
    go_simp
    refine (read_any w3 B p m x (HA1.out.step HD3.out) ⟨(nmS c).toArray⟩ (by show (nmS c).toArray.size ≤ _; simp [nmS_len])).mono ?_
    rintro e w4 ⟨⟨sv, rfl, o4⟩, b4⟩
    have HD4 : Hid (Below w1.heap.size w1 w4) := HD3.out.trans (b4.mono HD3.out.size)
    have hsn : seen x (nmS c) = (0, t.2.1) := seen_on (nmS_is _) (by rw [HC.out]; exact HX.out.lk) hon
    have hsn2 : seen x (⟨(nmS c).toArray⟩ : ByteArray).data.toList = (0, t.2.1) := hsn
    rw [hsn2] at o4 ⊢
    have HSB : Hid (Bs w4 sv (segB (gk.hi c).next rs) ∧ SafeU w4 sv) := ⟨by have := o4.bs; rw [show flat ((0, t.2.1) : Nat × List (List Nat)).2 = segB gk.next rs from HX.out.byt] at this; exact this, o4.safeU⟩
    have HSV : Hid (Bs w4 sv (segB (gk.hi c).next rs)) := HSB.out.1
    clear o4 hsn hsn2
    dsimp only
    go_wp2_with fail
    refine hK.out _ _ ((HL1.out.step HD4.out).cell 0 rfl) (fun hHeld => ?_)
    clear hK K b4 HD3
    try simp only [Act.put, List.setIfInBounds_toArray, List.set_cons_zero, List.set_cons_succ]
    refine takeD 7 50 (.tuple #[sv, .int .i64 0]) (by exact rfl) rfl (by kernel_rfl) (by kernel_rfl) (by kernel_rfl) (fun _ _ _ h => h) (Or.inl ⟨by rfl, ?_⟩) (by assumption) ?_
    · intro wq hS
      go_simp
    try simp only [Act.put, List.setIfInBounds_toArray, List.set_cons_zero, List.set_cons_succ]
    refine takeD 8 58 (sv) (by exact rfl) rfl (by kernel_rfl) (by kernel_rfl) (by kernel_rfl) (fun _ _ _ h => h) (Or.inl ⟨by rfl, ?_⟩) (by assumption) ?_
    · intro wq hS
      go_simp
    try simp only [Act.put, List.setIfInBounds_toArray, List.set_cons_zero, List.set_cons_succ]
    refine takeD 9 59 (.int .i64 0) (by exact rfl) rfl (by kernel_rfl) (by kernel_rfl) (by kernel_rfl) (fun _ _ _ h => h) (Or.inl ⟨by rfl, ?_⟩) (by assumption) ?_
    · intro wq hS
      go_simp
    try simp only [Act.put, List.setIfInBounds_toArray, List.set_cons_zero, List.set_cons_succ]
    refine takeD 10 9 (sv) (by exact rfl) rfl (by kernel_rfl) (by kernel_rfl) (by kernel_rfl) (fun _ _ _ h => h) (Or.inl ⟨by rfl, ?_⟩) (by assumption) ?_
    · intro wq hS
      go_simp
    try simp only [Act.put, List.setIfInBounds_toArray, List.set_cons_zero, List.set_cons_succ]
    refine takeD 11 10 (.int .i64 0) (by exact rfl) rfl (by kernel_rfl) (by kernel_rfl) (by kernel_rfl) (fun _ _ _ h => h) (Or.inl ⟨by rfl, ?_⟩) (by assumption) ?_
    · intro wq hS
      go_simp
    try simp only [Act.put, List.setIfInBounds_toArray, List.set_cons_zero, List.set_cons_succ]
    refine wpAnyH_done (by kernel_rfl) ?_ _
    refine NoPanic.normal ?_
    clear hHeld
    have HSZ : Hid (w.heap.size ≤ w1.heap.size) := HB1.out.size
    have HL4 : Hid (Lg w4 lp p (gk.hi c)) := HL1.out.step HD4.out
    have HB4 : Hid (But (fun i => i = lp) w w4) := HB1.out.then HD4.out
    have HP4 : Hid (Pay w4 w.heap.size u6 ((ss.take k).flatten.map (·.1))) := HP1.out.step HD4.out
    have HT4 : Hid (TbB B w4) := HT1.out.2.on (HD4.out.mono HA1.out.lt)
    have HMU : Hid (1 ≤ g.per ∧ g.per ≤ 1000 ∧ (lo + k) * g.per ≤ 4000000000 ∧ gk.next = (lo + k) * g.per + 1 ∧ (c + 1) * g.per = (lo + k) * g.per + g.per ∧ (lo + k) * g.per + g.per ≤ 4000000000 ∧ rs.length ≤ g.per) := (show _ by
      have h1 := HO.out.1.per
      have h2 := HNN.out
      have h3 : (lo + k + 1) * g.per ≤ 4000000 * 1000 := Nat.mul_le_mul (by omega) h1.2
      rw [Nat.add_mul, Nat.one_mul] at h3
      have h4 : (c + 1) * g.per = (lo + k) * g.per + g.per := by rw [HC.out, Nat.add_mul (lo + k), Nat.one_mul]
      exact ⟨h1.1, h1.2, by omega, HX.out.next, h4, by omega, HX.out.len⟩)
    have HOK : Hid (gk.hi c).ok := ⟨by show 1 ≤ gk.per ∧ gk.per ≤ 1000; rw [HX.out.per.1]; exact HO.out.1.per, by show gk.low ≤ _; rw [HX.out.per.2.1]; have := HNN.out; show lo ≤ _; omega, by show c ≤ _; omega, by show gk.next ≤ _; have := HMU.out; omega⟩
    clear HL1 HB1 HP1 HT1 HD4 HA1
    go_wp2_with fail
    refine (take_ok w4 lp p B (gk.hi c) HL4.out HBB.out.1 HOK.out HX.out.last HT4.out sv rs HSB.out.1 HSB.out.2 ((lkd_hi _ _ _).2 HX.out.lkd) HX.out.rok (by show gk.next + rs.length ≤ (c + 1) * gk.per + 1; rw [HX.out.per.1]; have := HMU.out; omega) (by show gk.next + _ < _; have := HMU.out; omega) (by have := HMU.out; omega)).mono ?_
    rintro e w5 ⟨⟨u5, ra, rc, rfl, hp5⟩, hl5, hb5, hk5, hbb5⟩
    have HP5 : Hid (Pay w5 w4.heap.size u5 (rs.map (·.1))) := hp5
    have HG5 : Hid (Lg w5 lp p ((adv gk rs).hi c)) := by rw [adv_hi] at hl5; exact hl5
    have HB5 : Hid (But (fun i => i = lp) w w5) := HB4.out.trans hb5 (fun _ _ h => h)
    have HQ5 : Hid (Pay w5 w.heap.size u6 ((ss.take k).flatten.map (·.1))) := HP4.out.kel hk5
    have HLN : Hid (((ss.take k).flatten.map (·.1)).length + (rs.map (·.1)).length ≤ 1000000) := (show _ ≤ 1000000 by
      rw [List.length_map, List.length_map]
      have h1 := HMU.out
      have h2 := (adv_per ⟨g.per, lo, lo, fn, g.last, g.ended⟩ (ss.take k).flatten).2.2.2.2
      rw [← HX.out.eqk] at h2
      have h3 : gk.next = fn + (ss.take k).flatten.length := h2
      have h4 := HEQ.out
      have h5 : (lo + k) * g.per = lo * g.per + k * g.per := Nat.add_mul _ _ _
      have h6 : k * g.per ≤ 100 * 1000 := Nat.mul_le_mul (by omega) h1.2.1
      omega)
    clear hp5 hl5 hb5 hk5 hbb5 HP4 HB4 HL4 HT4 HSB
    go_upto_region 14 with (at_builtin; refine appPay (by rfl) _ _ rfl w.heap.size w4.heap.size _ _ _ _ (by rfl) (by rfl) HQ5.out HP5.out HB5.out.size HLN.out ?_; intro v6 w6 p6 b6 g6)
    have HG6 : Hid (Lg w6 lp p ((adv gk rs).hi c)) := by
      obtain ⟨ts, o6, r6⟩ := g6
      exact va_grown (HG5.out : VA _ _ _ _) o6 r6 (by decide)
    have HB6 : Hid (But (fun i => i = lp) w w6) := HB5.out.below2 b6
    have HP6 : Hid (Pay w6 w.heap.size v6 ((ss.take (k + 1)).flatten.map (·.1))) := by
      rw [HX.out.snoc, List.map_append]
      exact p6
    have HNX : Hid ((adv gk rs).next = gk.next + rs.length ∧ (adv gk rs).per = g.per) := (show _ from by
      have h1 := adv_per gk rs
      exact ⟨h1.2.2.2.2, h1.1.trans HX.out.per.1⟩)
    have HOK6 : Hid ((adv gk rs).hi c).ok := (show _ from by
      have h1 := adv_per gk rs
      refine ⟨?_, ?_, ?_, ?_⟩
      · show 1 ≤ (adv gk rs).per ∧ (adv gk rs).per ≤ 1000
        rw [HNX.out.2]; exact HO.out.1.per
      · show (adv gk rs).low ≤ _
        rw [h1.2.1, HX.out.per.2.1]
        have := HNN.out
        show lo ≤ _
        omega
      · show c ≤ _
        omega
      · show (adv gk rs).next ≤ _
        have h2 := HNX.out.1
        have h3 := HMU.out
        omega)
    clear p6 b6 g6 HG5 HP5 HB5 HQ5 HOK HLN
    obtain ⟨sa, sL, sc, rfl, hsL⟩ : ∃ a n c, sv = .slice a n c ∧ n ≤ 9223372036854775807 := by
      obtain ⟨_, a, c, e, h1, h2, _⟩ := HSV.out
      exact ⟨a, _, c, e, Nat.le_trans h1 h2⟩
    have hvc : N ≤ vc := hcap.1
    have hvc2 : vc ≤ 9223372036854775807 := hcap.2
    by_cases ck : k + 1 < N
    · have HYK : Hid (w6.cell? ⟨vb, vo + (k + 1), none⟩ = some (.int .i64 ((((adv gk rs).hi c).high : Int) + 1))) := (show _ = _ from by
        have h1 := World.cell?_of_block (a := ⟨vb, vo + (k + 1), none⟩) (HB6.out.block vb HVB.out.1 HVB.out.2)
        rw [h1, HROW.out (k + 1) ck]
        have h2 := HC.out
        show some (Value.int .i64 ((lo + (k + 1) : Nat) : Int)) = some (Value.int .i64 ((c : Int) + 1))
        rw [show ((lo + (k + 1) : Nat) : Int) = (c : Int) + 1 by omega])
      have HGO : Hid ((((adv gk rs).hi c).high + 1) * ((adv gk rs).hi c).per < ((adv gk rs).hi c).next) := (show (c + 1) * (adv gk rs).per < (adv gk rs).next from by
        rw [HNX.out.2, HNX.out.1, HX.out.full (by rw [HNN.out.1]; exact ck)]
        have := HMU.out
        omega)
      have HN3 : Hid (0 < N - (k + 1)) := (show 0 < _ by omega)
      have e1 : ¬ vc = k + 1 := by omega
      have e2 : ((k : Int) + 1 < (N : Int)) := by omega
      go_wp2_with fail
      refine (goesOn_yes w6 lp p _ HG6.out HOK6.out ra rc HGO.out vb (vo + (k + 1)) (N - (k + 1)) (vc - (k + 1)) HN3.out HYK.out).mono ?_
      rintro e w7 ⟨rfl, b7⟩
      have HL7 : Hid (Lg w7 lp p ((adv ⟨g.per, lo, lo, fn, g.last, g.ended⟩ (ss.take (k + 1)).flatten).hi c)) := (show Lg _ _ _ _ from by
        rw [HX.out.snoc, adv_app, ← HX.out.eqk]
        exact HG6.out.step b7)
      have HB7 : Hid (But (fun i => i = lp) w w7) := HB6.out.then b7
      have HP7 : Hid (Pay w7 w.heap.size v6 ((ss.take (k + 1)).flatten.map (·.1))) := HP6.out.step b7
      clear b7 HB6 HP6 HG6 HYK HGO HN3 e1 e2
      go_wp2_with fail
      go_roundw
      case rel => exact ⟨k + 1, c, ck, by go_num, HL7, HP7, HB7⟩
      case measure => simp [intOf]; omega
    · have HKN : Hid (k + 1 = N) := (show k + 1 = N by omega)
      have HGN := (show Hid _ from fun (ja : Option Addr) (jc : Nat) => (show Calls Tryz.prog 74 #[.pointer (some ⟨lp, 0, none⟩), .slice ra 0 rc, .slice ja 0 jc] w6 (fun e w' => e = .returned (.bool false) ∧ Below w6.heap.size w6 w') from by
        by_cases cf : g.per ≤ rs.length
        · refine goesOn_no1 w6 lp p _ HG6.out HOK6.out ra rc ?_ ja jc
          show (c + 1) * (adv gk rs).per < (adv gk rs).next
          rw [HNX.out.2, HNX.out.1]
          have := HMU.out
          omega
        · refine goesOn_no2 w6 lp p _ HG6.out HOK6.out ra rc ?_ ja jc
          show (adv gk rs).next ≤ (c + 1) * (adv gk rs).per
          rw [HNX.out.2, HNX.out.1]
          have := HMU.out
          omega))
      have HFL : Hid (ss.take (k + 1) = ss) := (show _ = _ from List.take_of_length_le (by rw [HNN.out.1]; omega))
      have e0 : N - (k + 1) = 0 := by omega
      have e2 : (k : Int) + 1 ≤ (N : Int) := by omega
      clear ck
      by_cases cv : vc = k + 1
      · go_wp2_with fail
        refine (HGN.out _ 0).mono ?_
        rintro e w7 ⟨rfl, b7⟩
        have HG7 := (show Hid _ from HG6.out.step b7)
        have HP7 : Hid (Pay w7 w.heap.size v6 ((ss.take (k + 1)).flatten.map (·.1))) := HP6.out.step b7
        have HB7 : Hid (But (fun i => i = lp) w w7) := HB6.out.then b7
        clear b7 HG6 HP6 HB6 HGN
        go_wp2_with fail
        refine (discard_none w7 lp _ ra rc _ 0 (by omega)).mono ?_
        rintro e w8 ⟨rfl, b8⟩
        have HL8 : Hid (Lg w8 lp p ((adv ⟨g.per, lo, lo, fn, g.last, g.ended⟩ ss.flatten).hi (lo + N - 1))) := (show Lg _ _ _ _ from by
          have h1 := HG7.out.step b8
          rw [← HFL.out, HX.out.snoc, adv_app, ← HX.out.eqk, show lo + N - 1 = c by have := HC.out; have := HKN.out; omega]
          exact h1)
        have HP8 : Hid (Pay w8 w.heap.size v6 (ss.flatten.map (·.1))) := (show Pay _ _ _ _ from by
          have h1 := HP7.out.step b8
          rw [HFL.out] at h1
          exact h1)
        have HB8 : Hid (But (fun i => i = lp) w w8) := HB7.out.then b8
        clear b8 HG7 HP7 HB7
        go_wp2_with fail
        refine bodyPost_ret (v := .tuple #[v6, .int .i64 0]) (by simp [results, Tryz.results38, go_sem, asAddr]) rfl ?_
        exact ⟨v6, rfl, HP8.out, HL8.out, HB8.out⟩
      · go_wp2_with fail
        refine (HGN.out _ (vc - (k + 1))).mono ?_
        rintro e w7 ⟨rfl, b7⟩
        have HG7 := (show Hid _ from HG6.out.step b7)
        have HP7 : Hid (Pay w7 w.heap.size v6 ((ss.take (k + 1)).flatten.map (·.1))) := HP6.out.step b7
        have HB7 : Hid (But (fun i => i = lp) w w7) := HB6.out.then b7
        clear b7 HG6 HP6 HB6 HGN
        go_wp2_with fail
        refine (discard_none w7 lp _ ra rc _ (vc - (k + 1)) (by omega)).mono ?_
        rintro e w8 ⟨rfl, b8⟩
        have HL8 : Hid (Lg w8 lp p ((adv ⟨g.per, lo, lo, fn, g.last, g.ended⟩ ss.flatten).hi (lo + N - 1))) := (show Lg _ _ _ _ from by
          have h1 := HG7.out.step b8
          rw [← HFL.out, HX.out.snoc, adv_app, ← HX.out.eqk, show lo + N - 1 = c by have := HC.out; have := HKN.out; omega]
          exact h1)
        have HP8 : Hid (Pay w8 w.heap.size v6 (ss.flatten.map (·.1))) := (show Pay _ _ _ _ from by
          have h1 := HP7.out.step b8
          rw [HFL.out] at h1
          exact h1)
        have HB8 : Hid (But (fun i => i = lp) w w8) := HB7.out.then b8
        clear b8 HG7 HP7 HB7
        go_wp2_with fail
        refine bodyPost_ret (v := .tuple #[v6, .int .i64 0]) (by simp [results, Tryz.results38, go_sem, asAddr]) rfl ?_
        exact ⟨v6, rfl, HP8.out, HL8.out, HB8.out⟩
end Go.Proofs.YtkmdegmpffgplaaGreatDoor
/- log XXII: Open and Append of a log that is whole. -/
namespace Go.Proofs.YtkmdegmpffgplaaGreatDoor
open Go.RowKit Go.Maps Go.Sort Go.Shelf pk
set_option linter.unusedVariables false
set_option linter.unusedSimpArgs false
/-- an idle disk that holds a whole log -/
structure Dst (w : World) (B p m R o : Nat) (fs : FS) (per lo : Nat) (rs : List Rc) : Prop where
  da : DA w B p m ⟨R, o, 0, true, none, fs⟩
  pt : PtB B w
  tb : TbB B w
  fil : Fls fs per lo rs
  lks : Lks per lo rs
  rok : ∀ r ∈ rs, Rok r
  per : 1 ≤ per ∧ per ≤ 1000
  few : lo + rs.length ≤ 1000000
  emp : rs = [] → lo = 0
theorem Dst.step {w w' : World} {B p m R o : Nat} {fs : FS} {per lo : Nat} {rs : List Rc} (h : Dst w B p m R o fs per lo rs) (k : Below w.heap.size w w') : Dst w' B p m R o fs per lo rs :=
  ⟨h.da.step k, h.pt.on (k.mono h.da.lt), h.tb.on (k.mono h.da.lt), h.fil, h.lks, h.rok, h.per, h.few, h.emp⟩
theorem whole_of {x : AD} {per lo : Nat} {rs : List Rc} (hp : 1 ≤ per) (h : Fls x.fs per lo rs) (hr : ∀ r ∈ rs, Rok r) : Whole x per lo ((List.range (nsg per rs.length)).map (sgt per rs)) := by
  have hat : ∀ i rs', ((List.range (nsg per rs.length)).map (sgt per rs))[i]? = some rs' → i < nsg per rs.length ∧ rs' = sgt per rs i := fun i rs' e => by
    rw [List.getElem?_map] at e
    cases h1 : (List.range (nsg per rs.length))[i]? with
    | none => rw [h1] at e; cases e
    | some j =>
      rw [h1] at e
      obtain ⟨hi, h2⟩ := List.getElem?_eq_some_iff.1 h1
      rw [List.length_range] at hi
      rw [List.getElem_range] at h2
      subst h2
      cases e
      exact ⟨hi, rfl⟩
  refine ⟨fun i rs' e => ?_, fun i rs' e hl => ?_, fun rs' hm => ?_⟩
  · obtain ⟨h1, rfl⟩ := hat i rs' e
    exact h.file i ((nsg_lt hp).1 h1)
  · obtain ⟨h1, rfl⟩ := hat i rs' e
    rw [List.length_map, List.length_range] at hl
    have h2 := (nsg_lt hp).1 hl
    rw [Nat.add_mul, Nat.one_mul] at h2
    rw [sgt_len]
    omega
  · obtain ⟨i, h1, rfl⟩ := List.mem_map.1 hm
    refine ⟨by rw [sgt_len]; omega, fun r hr' => hr r ?_⟩
    unfold sgt at hr'
    exact List.mem_of_mem_drop (List.mem_of_mem_take hr')
theorem nsg_le {per T : Nat} (hp : 1 ≤ per) : nsg per T ≤ T := by
  rcases Nat.eq_zero_or_pos T with h | h
  · subst h
    unfold nsg
    rw [Nat.zero_add, Nat.div_eq_of_lt (by omega)]
    exact Nat.le_refl _
  · rw [nsg_pred hp h]
    have := Nat.div_le_self (T - 1) per
    omega
set_option maxRecDepth 100000 in
set_option maxHeartbeats 4000000 in
theorem open_st (w : World) (B p m R o : Nat) (fs : FS) (per lo : Nat) (rs : List Rc) (h : Dst w B p m R o fs per lo rs) (hl : fs.length ≤ 100) :
    Calls Tryz.prog 12 #[.pointer (some ⟨p, 0, none⟩), .int .i64 (per : Int)] w fun e w' => ∃ lp u, w.heap.size ≤ lp ∧ e = .returned (.tuple #[.pointer (some ⟨lp, 0, none⟩), u, .int .i64 0]) ∧ Lg w' lp p (gst per lo rs (List.replicate 32 0)) ∧ Pay w' w.heap.size u (rs.map (·.1)) ∧ Below w.heap.size w w' := by
  have HDS : Hid (Dst w B p m R o fs per lo rs) := h
  have HON := (show Hid _ from on_any w B p m _ h.da)
  have HNA := (show Hid _ from fun w' (k : Below w.heap.size w w') => names_any w' B p m _ (h.da.step k))
  have HOK : Hid (lg0 per).ok := ⟨h.per, Nat.zero_le _, Nat.zero_le _, Nat.zero_le _⟩
  have HFL : Hid (fs.length ≤ 100) := hl
  have h1 := h.per.1
  have h2 := h.per.2
  have d1 : ¬ (per : Int) < 1 := by omega
  have d2 : ¬ (1000 : Int) < (per : Int) := by omega
  clear h hl h1 h2
  go_enter Tryz.func12, Tryz.ntmps12
  go_wp2_with fail
  refine Calls.mono HON.out ?_
  rintro e w1 ⟨rfl, rfl⟩
  go_upto_region 8 with (refine bldG rfl _ _ rfl p per (by rfl) (by rfl) ?_)
  have D := (Below.refl w1.heap.size w1).alloc (Nat.le_refl _) (.cells ((lg0 per).cells p).toArray 73)
  have HD := (show Hid _ from D)
  have HG : Hid (Lg (w1.alloc (.cells ((lg0 per).cells p).toArray 73)) w1.heap.size p (lg0 per)) := va_new w1 ((lg0 per).cells p) 73
  clear D HON
  generalize w1.alloc (.cells ((lg0 per).cells p).toArray 73) = w2 at *
  obtain ⟨lp, hlp⟩ : ∃ lp, lp = w1.heap.size := ⟨_, rfl⟩
  have HLP : Hid (lp = w1.heap.size) := hlp
  rw [← hlp] at HG ⊢
  clear hlp
  go_wp2_with fail
  refine Calls.mono (HNA.out _ HD.out) ?_
  rintro e w3 ⟨v, ns, rfl, hp, _, hsr, hown, _, b3⟩
  have hpm : ns.Perm (nms fs) := hp (by simp)
  obtain ⟨xs, hxs, hx9⟩ := nk_xs ns (fun l hl => HDS.out.fil.name l (hpm.mem_iff.1 hl))
  have hlen : xs.length ≤ 100 := by
    have e1 := hpm.length_eq
    rw [hxs, List.length_map] at e1
    rw [e1]
    unfold nms
    rw [List.length_map]
    exact HFL.out
  have hnum := fil_nums HDS.out.per.1 HDS.out.fil (by have := HDS.out.few; have := nsg_le (T := rs.length) HDS.out.per.1; omega) hpm hsr HDS.out.da.nodup hxs hx9
  have HNS : Hid (Sn w3 v (xs.map nmO)) := by
    have := hown.sn
    rw [hxs] at this
    exact this
  have HD3 : Hid (Below w1.heap.size w1 w3) := HD.out.trans (b3.mono HD.out.size)
  have HG3 : Hid (Lg w3 lp p (lg0 per)) := HG.out.step b3
  have HNUM : Hid (nsg per rs.length ≤ 100) := (show _ ≤ 100 by
    have e1 := congrArg List.length hnum
    rw [List.length_map, List.length_range] at e1
    rw [← e1]
    exact Nat.le_trans (List.length_filterMap_le _ _) hlen)
  clear hp hown b3 HD HG HNA hpm hsr hxs
  go_wp2_with fail
  refine (numbers_ok w3 v xs HNS.out hx9 hlen).mono ?_
  rintro e w4 ⟨⟨u, rfl, o4⟩, b4⟩
  rw [hnum] at o4
  have HD4 : Hid (Below w1.heap.size w1 w4) := HD3.out.trans (b4.mono HD3.out.size)
  have HG4 : Hid (Lg w4 lp p (lg0 per)) := HG3.out.step b4
  have HLT : Hid (lp < w3.heap.size) := HG3.out.lt
  obtain ⟨ua, uc, hu, _⟩ := o4.form
  rw [List.length_map, List.length_range] at hu
  have HSL : Hid (Sl KI w4 u ((List.range (nsg per rs.length)).map (lo + ·))) := o4.sl
  have HBL : Hid (∀ b o, ua = some ⟨b, o, none⟩ → b ≠ lp) := fun b o e => by
    have h1 : w3.heap.size ≤ b := o4.block b (by rw [hu, e]; rfl)
    have h2 := HLT.out
    omega
  have HDA : Hid (Dst w4 B p m R o fs per lo rs) := HDS.out.step HD4.out
  have HBL2 : Hid (B ≤ lp) := (show B ≤ lp by rw [HLP.out]; exact HDS.out.da.lt)
  clear o4 b4 HD3 HG3 hnum HNS hx9 hlen HLT
  have HFIN : Hid (Calls Tryz.prog 38 #[.pointer (some ⟨lp, 0, none⟩), u] w4 fun e w' => ∃ v, e = .returned (.tuple #[v, .int .i64 0]) ∧ Pay w' w4.heap.size v (rs.map (·.1)) ∧ Lg w' lp p (gst per lo rs (List.replicate 32 0)) ∧ But (fun i => i = lp) w4 w') := by
    subst hu
    rcases Nat.eq_zero_or_pos (nsg per rs.length) with h0 | h0
    · have hrs : rs = [] := by
        cases rs with
        | nil => rfl
        | cons r rs => rw [nsg_pred HDA.out.per.1 (by simp)] at h0; exact absurd h0 (Nat.succ_ne_zero _)
      have hlo := HDA.out.emp hrs
      subst hrs
      subst hlo
      rw [h0]
      refine (read_none w4 lp p (lg0 per) HG4.out HOK.out ua uc).mono ?_
      rintro e w' ⟨rfl, h3, h4⟩
      refine ⟨_, rfl, ⟨[], rfl, own_nil KT _ _, fun t ht => by cases ht⟩, ?_, h4⟩
      have e1 : ({ lg0 per with high := (lg0 per).low, next := (lg0 per).low * (lg0 per).per + 1 } : LG) = gst per 0 [] (List.replicate 32 0) := by
        show (⟨per, 0, 0, 0 * per + 1, List.replicate 32 0, false⟩ : LG) = ⟨per, 0, 0 + (0 - 1) / per, 0 * per + 1, List.replicate 32 0, false⟩
        rw [Nat.zero_sub, Nat.zero_div]
      rw [e1] at h3
      exact h3
    · refine (readL_ok w4 B p m lp lo (nsg per rs.length) _ (lg0 per) ((List.range (nsg per rs.length)).map (sgt per rs)) HDA.out.da rfl HG4.out HBL2.out HOK.out ⟨by simp [lg0], fun a ha => by rw [List.eq_of_mem_replicate ha]; omega⟩ HDA.out.pt HDA.out.tb ua uc HSL.out HBL.out (by rw [List.length_map, List.length_range]) h0 HNUM.out (by have := HDA.out.few; have := HNUM.out; omega) (whole_of HDA.out.per.1 HDA.out.fil HDA.out.rok) ?_).mono ?_
      · rw [sgt_all per HDA.out.per.1]
        exact (lkd_lks per lo lo _ _ rs).2 HDA.out.lks
      · rintro e w' ⟨v, rfl, h3, h4, h5⟩
        rw [sgt_all per HDA.out.per.1] at h3 h4
        refine ⟨v, rfl, h3, ?_, h5⟩
        have hT : 0 < rs.length := by
          rcases Nat.eq_zero_or_pos rs.length with hT | hT
          · have := nsg_le (T := rs.length) HDA.out.per.1; omega
          · exact hT
        have e1 : lo + nsg per rs.length - 1 = lo + (rs.length - 1) / per := by rw [nsg_pred HDA.out.per.1 hT]; exact Nat.add_sub_cancel _ 1
        rw [e1] at h4
        exact h4
  clear HSL HBL HBL2 HDA HOK HNUM HFL hu
  go_wp2_with fail
  refine Calls.mono HFIN.out ?_
  rintro e w5 ⟨v5, rfl, hP5, hL5, hB5⟩
  have HB5 : Hid (Below w1.heap.size w1 w5) := HD4.out.trans (hB5.below HD4.out.size (fun i hi => by have h1 : i = lp := hi; have h2 := HLP.out; omega))
  have HL5 := (show Hid _ from hL5)
  have HP5 : Hid (Pay w5 w1.heap.size v5 (rs.map (·.1))) := by
    obtain ⟨ts, e1, e2, e3⟩ := hP5.ex
    exact ⟨ts, e1, e2.lower HD4.out.size, e3⟩
  clear hP5 hL5 hB5 HFIN HG4 HD4
  go_wp2_with fail
  refine bodyPost_ret (v := .tuple #[.pointer (some ⟨lp, 0, none⟩), v5, .int .i64 0]) (by simp [results, Tryz.results12, go_sem, asAddr]) rfl ?_
  exact ⟨lp, v5, Nat.le_of_eq HLP.out.symm, rfl, HL5.out, HP5.out, HB5.out⟩
/-- the record that an Append makes -/
def mkR (per lo : Nat) (rs : List Rc) (l0 pl : List Nat) : Rc := (pl, chn (gst per lo rs l0).ahd pl)
theorem mkR_2 (per lo : Nat) (rs : List Rc) (l0 pl : List Nat) : (mkR per lo rs l0 pl).2 = chn (gst per lo rs l0).ahd pl := by simp only [mkR]
theorem mkR_ok {per lo : Nat} {rs : List Rc} {l0 pl : List Nat} (hb : By pl) (h0 : 0 < pl.length) (hl : pl.length ≤ 4096) : Rok (mkR per lo rs l0 pl) := by
  have h2 := mkR_2 per lo rs l0 pl
  have h1 : (mkR per lo rs l0 pl).1 = pl := by simp only [mkR]
  generalize mkR per lo rs l0 pl = r at h1 h2
  exact ⟨by rw [h1]; exact hb, by rw [h1]; exact h0, by rw [h1]; exact hl, by rw [h2]; exact chn_by _ _, by rw [h2]; exact chn_len _ _⟩
/-- the files behind an Append -/
def afs (fs : FS) (per lo : Nat) (rs : List Rc) (r : Rc) : FS := rfs fs (lo + rs.length / per) (secL (lo * per + 1 + rs.length) r.1 r.2)
/-- is there room for it? -/
def room (R : Nat) (fs : FS) (per lo : Nat) (rs : List Rc) (pl : List Nat) : Bool := fitA R fs (nmS (lo + rs.length / per)) (cn4 (pl.length + 36))
theorem cnt_sec (num : Nat) (pl xs : List Nat) (h : xs.length = 32) : cnt (secL num pl xs).length = cn4 (pl.length + 36) := by
  rw [secL_len, h]
  unfold cnt
  rw [show pl.length + 4 + 32 = pl.length + 36 by omega]
  omega
theorem append_st (w : World) (B p m R o : Nat) (fs : FS) (per lo lp : Nat) (rs : List Rc) (l0 : List Nat) (h : Dst w B p m R o fs per lo rs) (hg : Lg w lp p (gst per lo rs l0)) (hl0 : l0.length = 32 ∧ By l0) (hB : B ≤ lp) (v : Value) (pl : List Nat) (hp : Bs w v pl) (hs : SafeL w v) (h0 : 0 < pl.length) (hl : pl.length ≤ 4096) (hops : o ≤ 4611686018427387000) (hfew : lo + rs.length < 1000000) (hroom : room R fs per lo rs pl = true) :
    Calls Tryz.prog 9 #[.pointer (some ⟨lp, 0, none⟩), v] w fun r w' => r = .returned (.tuple #[.int .i64 ((lo * per + 1 + rs.length : Nat) : Int), .int .i64 0]) ∧ Dst w' B p m R (o + 1 + 1) (afs fs per lo rs (mkR per lo rs l0 pl)) per lo (rs ++ [mkR per lo rs l0 pl]) ∧ Lg w' lp p (gst per lo (rs ++ [mkR per lo rs l0 pl]) l0) ∧ Kel w w' ∧ Below B w w' := by
  have hpr := h.per
  have hfw := h.few
  have hd := Nat.div_le_self rs.length per
  have hsg := gst_sgm per lo rs l0 hpr.1
  have hnx := gst_next per lo rs l0
  have hmu : lo * per + rs.length ≤ 2000000000 := by
    have h1 : lo * per ≤ 1000000 * 1000 := Nat.mul_le_mul (by omega) hpr.2
    omega
  have hok : (gst per lo rs l0).ok := ⟨by rw [gst_per]; exact hpr, by rw [gst_low]; omega, by
    show lo + (rs.length - 1) / per ≤ _
    have := Nat.div_le_self (rs.length - 1) per
    omega, by rw [hnx]; omega⟩
  have hgl : (gst per lo rs l0).last.length = 32 ∧ By (gst per lo rs l0).last := adv_last ⟨per, lo, lo, lo * per + 1, l0, false⟩ rs hl0 h.rok
  have hw := wrL_idle R o fs (gst per lo rs l0) pl (chn (gst per lo rs l0).ahd pl) (by
    rw [cnt_sec _ _ _ (chn_len _ _), hsg]
    exact hroom)
  refine (lappend_ok w B p m lp _ (gst per lo rs l0) h.da hg hB hok hgl (gst_ended _ _ _ _) (by rw [hnx]; omega) (by rw [hsg]; omega) (by rw [hnx]; omega) h.pt h.tb v pl hp hs h0 hl hops (by show 0 ≤ _; omega)).mono ?_
  rintro e w' ⟨hk, hb, hd', hc⟩
  rw [hw] at hd' hc
  rcases hc with ⟨_, rfl, hg'⟩ | ⟨hn, _⟩
  · refine ⟨by rw [hnx], ⟨?_, h.pt.on hb, h.tb.on hb, fil_app hpr.1 h.fil _ (by omega), lks_app h.lks pl _ l0 rfl, fun r hr => ?_, hpr, by rw [List.length_append, List.length_singleton]; omega, fun e => by simp at e⟩, ?_, hk, hb⟩
    · have e1 : (0, (⟨R, o + 1 + 1, 0, true, none, rfs fs (sgm (gst per lo rs l0)) (secL (gst per lo rs l0).next pl (chn (gst per lo rs l0).ahd pl))⟩ : AD), ({ gst per lo rs l0 with high := sgm (gst per lo rs l0) } : LG)).2.1 = (⟨R, o + 1 + 1, 0, true, none, afs fs per lo rs (mkR per lo rs l0 pl)⟩ : AD) := by
        unfold afs mkR
        rw [hsg, hnx]
      rw [e1] at hd'
      exact hd'
    · rcases List.mem_append.1 hr with hr | hr
      · exact h.rok r hr
      · rw [List.mem_singleton] at hr
        subst hr
        exact mkR_ok hp.byte h0 hl
    · rw [gst_app per lo rs l0 _ hpr.1, mkR_2]
      exact hg'
  · exact absurd rfl hn
end Go.Proofs.YtkmdegmpffgplaaGreatDoor
