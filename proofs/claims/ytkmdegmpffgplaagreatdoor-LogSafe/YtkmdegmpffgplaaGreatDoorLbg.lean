/- log XII: read, of a whole log. -/
import Derived.Test.YtkmdegmpffgplaaGreatDoorLbf
namespace Go.Proofs.YtkmdegmpffgplaaGreatDoor
open Go.RowKit Go.Maps Go.Sort Go.Shelf pk
set_option linter.unusedVariables false
set_option linter.unusedSimpArgs false
theorem But.upd {lp : Nat} {w a b : World} (h : But (fun i => i = lp) w a) (k : Upd lp a b) : But (fun i => i = lp) w b := h.trans k.but (fun _ _ h => h)
theorem But.kel {lp p : Nat} {w w' : World} {g : LG} (h : But (fun i => i = lp) w w') (v : Lg w lp p g) : KeL w w' :=
  ⟨h.os, h.tape, h.output, h.size, fun i o e hn => (h.block i (hlt_of e) (fun er => by have er' : i = lp := er; subst er'; rw [VA.blk v] at e; cases e; exact hn _ _ rfl)).trans e⟩
set_option maxRecDepth 100000 in
set_option maxHeartbeats 4000000 in
theorem read_none (w : World) (lp p : Nat) (g : LG) (h : Lg w lp p g) (ho : g.ok) (va : Option Addr) (vc : Nat) :
    Calls Tryz.prog 38 #[.pointer (some ⟨lp, 0, none⟩), .slice va 0 vc] w fun e w' => e = .returned (.tuple #[.slice none 0 0, .int .i64 0]) ∧ Lg w' lp p { g with high := g.low, next := g.low * g.per + 1 } ∧ But (fun i => i = lp) w w' := by
  have HG : Hid (Lg w lp p g) := h
  have HOK : Hid g.ok := ho
  have HBU : Hid (But (fun i => i = lp) w w) := But.refl _ _
  clear h ho
  have HFO := (show Hid _ from fun w' (k : Lg w' lp p g) => firstOf_ok w' lp p g k HOK.out g.low HOK.out.low)
  obtain ⟨lo, hlo⟩ : ∃ lo, lo = g.low := ⟨_, rfl⟩
  obtain ⟨fn, hfn⟩ : ∃ fn, fn = g.low * g.per + 1 := ⟨_, rfl⟩
  rw [← hfn, ← hlo] at HFO
  rw [← hlo]
  have HLOW : Hid ((({ g with high := lo, next := fn } : LG).cells p)[2]? = some (.int .i64 (lo : Int))) := (show _ = _ by rw [hlo]; rfl)
  have HY2 : Hid (w.drew.cell? ⟨lp, 2, none⟩ = some (.int .i64 (lo : Int))) := (show _ = _ by rw [hlo]; exact HG.out.cell 2 rfl)
  have HEQ : Hid (fn = lo * g.per + 1) := (show _ = _ by rw [hfn, hlo])
  have HLE : Hid (lo = g.low) := hlo
  clear hlo hfn
  go_enter Tryz.func38, Tryz.ntmps38
  go_upto_region 3 with fail
  refine wp_region_noPanic ?_
  refine wp_region_held_drew (S := fun V => V.cell? ⟨lp, 2, none⟩ = some (.int .i64 (lo : Int))) (by kernel_rfl) HY2.out ?_
  intro hHeld
  have HB0 : Hid (But (fun i => i = lp) w w.drew) := ⟨HBU.out.os, HBU.out.tape, HBU.out.output, HBU.out.size, HBU.out.block⟩
  have HG0 : Hid (Lg w.drew lp p (g)) := VA.drew HG.out
  clear HBU HG HY2
  generalize w.drew = w1 at *
  refine takeD 0 23 (.pointer (some ⟨lp, 0, none⟩)) (by exact rfl) rfl (by kernel_rfl) (by kernel_rfl) (by kernel_rfl) (fun _ _ _ h => h) (Or.inl ⟨by rfl, ?_⟩) (by assumption) ?_
  · intro wq hS
    go_simp
  try simp only [Act.put, List.setIfInBounds_toArray, List.set_cons_zero, List.set_cons_succ]
  refine takeD 1 24 (.pointer (some ⟨lp, 0, none⟩)) (by exact rfl) rfl (by kernel_rfl) (by kernel_rfl) (by kernel_rfl) (fun _ _ _ h => h) (Or.inl ⟨by rfl, ?_⟩) (by assumption) ?_
  · intro wq hS
    go_simp
  try simp only [Act.put, List.setIfInBounds_toArray, List.set_cons_zero, List.set_cons_succ]
  refine takeD 2 25 (.pointer (some ⟨lp, 0, none⟩)) (by exact rfl) rfl (by kernel_rfl) (by kernel_rfl) (by kernel_rfl) (fun _ _ _ h => h) (Or.inl ⟨by rfl, ?_⟩) (by assumption) ?_
  · intro wq hS
    go_simp
  try simp only [Act.put, List.setIfInBounds_toArray, List.set_cons_zero, List.set_cons_succ]
  refine takeD 3 26 (.pointer (some ⟨lp, 0, none⟩)) (by exact rfl) rfl (by kernel_rfl) (by kernel_rfl) (by kernel_rfl) (fun _ _ _ h => h) (Or.inl ⟨by rfl, ?_⟩) (by assumption) ?_
  · intro wq hS
    go_simp
  try simp only [Act.put, List.setIfInBounds_toArray, List.set_cons_zero, List.set_cons_succ]
  refine takeD 4 27 (.pointer (some ⟨lp, 2, none⟩)) (by exact rfl) rfl (by kernel_rfl) (by kernel_rfl) (by kernel_rfl) (fun _ _ _ h => h) (Or.inl ⟨by rfl, ?_⟩) (by assumption) ?_
  · intro wq hS
    go_simp
  try simp only [Act.put, List.setIfInBounds_toArray, List.set_cons_zero, List.set_cons_succ]
  refine takeD 5 28 (.int .i64 (lo : Int)) (by exact rfl) rfl (by kernel_rfl) (by kernel_rfl) (by kernel_rfl) (fun _ _ _ h => h) (Or.inl ⟨by rfl, ?_⟩) (by assumption) ?_
  · intro wq hS
    have c := hS
    go_simp
  try simp only [Act.put, List.setIfInBounds_toArray, List.set_cons_zero, List.set_cons_succ]
  refine takeD 6 29 (.pointer (some ⟨lp, 0, none⟩)) (by exact rfl) rfl (by kernel_rfl) (by kernel_rfl) (by kernel_rfl) (fun _ _ _ h => h) (Or.inl ⟨by rfl, ?_⟩) (by assumption) ?_
  · intro wq hS
    go_simp
  try simp only [Act.put, List.setIfInBounds_toArray, List.set_cons_zero, List.set_cons_succ]
  refine takeD 7 30 (.pointer (some ⟨lp, 0, none⟩)) (by exact rfl) rfl (by kernel_rfl) (by kernel_rfl) (by kernel_rfl) (fun _ _ _ h => h) (Or.inl ⟨by rfl, ?_⟩) (by assumption) ?_
  · intro wq hS
    go_simp
  try simp only [Act.put, List.setIfInBounds_toArray, List.set_cons_zero, List.set_cons_succ]
  refine takeD 8 31 (.pointer (some ⟨lp, 0, none⟩)) (by exact rfl) rfl (by kernel_rfl) (by kernel_rfl) (by kernel_rfl) (fun _ _ _ h => h) (Or.inl ⟨by rfl, ?_⟩) (by assumption) ?_
  · intro wq hS
    go_simp
  try simp only [Act.put, List.setIfInBounds_toArray, List.set_cons_zero, List.set_cons_succ]
  refine takeD 9 32 (.pointer (some ⟨lp, 2, none⟩)) (by exact rfl) rfl (by kernel_rfl) (by kernel_rfl) (by kernel_rfl) (fun _ _ _ h => h) (Or.inl ⟨by rfl, ?_⟩) (by assumption) ?_
  · intro wq hS
    go_simp
  try simp only [Act.put, List.setIfInBounds_toArray, List.set_cons_zero, List.set_cons_succ]
  refine takeD 10 33 (.int .i64 (lo : Int)) (by exact rfl) rfl (by kernel_rfl) (by kernel_rfl) (by kernel_rfl) (fun _ _ _ h => h) (Or.inl ⟨by rfl, ?_⟩) (by assumption) ?_
  · intro wq hS
    have c := hS
    go_simp
  try simp only [Act.put, List.setIfInBounds_toArray, List.set_cons_zero, List.set_cons_succ]
  refine wpAnyH_ready (rs := [11]) (by kernel_rfl) (by simp) ?_
  refine AllReadyH.cons (by exact rfl) (fun K hK => ?_) AllReadyH.nil
  go_simp
  refine (HFO.out w1 HG0.out).mono ?_
  rintro e w1b ⟨rfl, rfl⟩
  skip
  go_wp2_with fail
  refine hK.out _ _ hHeld (fun hHeld => ?_)
  clear hK K 
  try simp only [Act.put, List.setIfInBounds_toArray, List.set_cons_zero, List.set_cons_succ]
  refine takeD 12 35 (.pointer (some ⟨lp, 0, none⟩)) (by exact rfl) rfl (by kernel_rfl) (by kernel_rfl) (by kernel_rfl) (fun _ _ _ h => h) (Or.inl ⟨by rfl, ?_⟩) (by assumption) ?_
  · intro wq hS
    go_simp
  try simp only [Act.put, List.setIfInBounds_toArray, List.set_cons_zero, List.set_cons_succ]
  refine takeD 13 36 (.pointer (some ⟨lp, 3, none⟩)) (by exact rfl) rfl (by kernel_rfl) (by kernel_rfl) (by kernel_rfl) (fun _ _ _ h => h) (Or.inl ⟨by rfl, ?_⟩) (by assumption) ?_
  · intro wq hS
    go_simp
  try simp only [Act.put, List.setIfInBounds_toArray, List.set_cons_zero, List.set_cons_succ]
  have y3 := HG0.out.cell 3 (v := .int .i64 ((g).high : Int)) rfl
  have f3 := HG0.out.free 3
  have V2 : Lg (w1b.setCell ⟨lp, 3, none⟩ (.int .i64 (lo : Int))) lp p { g with high := lo } := HG0.out.set 3 (.int .i64 (lo : Int))
  have HB2 : Hid (But (fun i => i = lp) w (w1b.setCell ⟨lp, 3, none⟩ (.int .i64 (lo : Int)))) := HB0.out.upd (upd_set w1b lp 3 _)
  have HL2 : Hid ((w1b.setCell ⟨lp, 3, none⟩ (.int .i64 (lo : Int))).cell? ⟨lp, 2, none⟩ = some (.int .i64 (lo : Int))) := V2.cell 2 (v := .int .i64 (lo : Int)) HLOW.out
  have HV2 := (show Hid _ from V2)
  clear V2
  refine wpAnyH_ready (rs := [14]) (by kernel_rfl) (by simp) ?_
  refine AllReadyH.cons (by exact rfl) (fun K hK => ?_) AllReadyH.nil
  go_simp
  refine hK.out _ _ HL2.out (fun hHeld => ?_)
  clear hK K y3 f3
  try simp only [Act.put, List.setIfInBounds_toArray, List.set_cons_zero, List.set_cons_succ]
  generalize w1b.setCell ⟨lp, 3, none⟩ (.int .i64 (lo : Int)) = w2 at *
  refine takeD 15 37 (.pointer (some ⟨lp, 0, none⟩)) (by exact rfl) rfl (by kernel_rfl) (by kernel_rfl) (by kernel_rfl) (fun _ _ _ h => h) (Or.inl ⟨by rfl, ?_⟩) (by assumption) ?_
  · intro wq hS
    go_simp
  try simp only [Act.put, List.setIfInBounds_toArray, List.set_cons_zero, List.set_cons_succ]
  refine takeD 16 38 (.pointer (some ⟨lp, 4, none⟩)) (by exact rfl) rfl (by kernel_rfl) (by kernel_rfl) (by kernel_rfl) (fun _ _ _ h => h) (Or.inl ⟨by rfl, ?_⟩) (by assumption) ?_
  · intro wq hS
    go_simp
  try simp only [Act.put, List.setIfInBounds_toArray, List.set_cons_zero, List.set_cons_succ]
  have y4 := HV2.out.cell 4 (v := .int .i64 ((g).next : Int)) rfl
  have f4 := HV2.out.free 4
  have V3 : Lg (w2.setCell ⟨lp, 4, none⟩ (.int .i64 (fn : Int))) lp p { g with high := lo, next := fn } := HV2.out.set 4 (.int .i64 (fn : Int))
  have HB3 : Hid (But (fun i => i = lp) w (w2.setCell ⟨lp, 4, none⟩ (.int .i64 (fn : Int)))) := HB2.out.upd (upd_set w2 lp 4 _)
  have HL3 : Hid ((w2.setCell ⟨lp, 4, none⟩ (.int .i64 (fn : Int))).cell? ⟨lp, 2, none⟩ = some (.int .i64 (lo : Int))) := V3.cell 2 (v := .int .i64 (lo : Int)) HLOW.out
  have HV3 := (show Hid _ from V3)
  clear V3
  refine wpAnyH_ready (rs := [17]) (by kernel_rfl) (by simp) ?_
  refine AllReadyH.cons (by exact rfl) (fun K hK => ?_) AllReadyH.nil
  go_simp
  refine hK.out _ _ HL3.out (fun hHeld => ?_)
  clear hK K y4 f4
  try simp only [Act.put, List.setIfInBounds_toArray, List.set_cons_zero, List.set_cons_succ]
  generalize w2.setCell ⟨lp, 4, none⟩ (.int .i64 (fn : Int)) = w3 at *
  refine wpAnyH_done (by kernel_rfl) ?_ _
  refine NoPanic.normal ?_
  clear hHeld HB0 HG0 HB2 HL2 HV2 HL3
  go_wp2_with fail
  go_loopw [6, 41] (fun u i wr => u = .slice none 0 0 ∧ i = .int .i64 0 ∧ wr = w3) (fun _ i _ => 0)
  case atStart => exact ⟨rfl, rfl, rfl⟩
  case round =>
    obtain ⟨rfl, rfl, rfl⟩ := hrel
    go_wp2_with fail
    refine bodyPost_ret (v := .tuple #[.slice none 0 0, .int .i64 0]) (by simp [results, Tryz.results38, go_sem, asAddr]) rfl ?_
    rw [← HEQ.out]
    have e := HLE.out
    subst e
    exact ⟨rfl, HV3.out, HB3.out⟩
end Go.Proofs.YtkmdegmpffgplaaGreatDoor
/- log XIII: Open of an empty disk. -/
namespace Go.Proofs.YtkmdegmpffgplaaGreatDoor
open Go.RowKit Go.Maps Go.Sort Go.Shelf pk
set_option linter.unusedVariables false
set_option linter.unusedSimpArgs false
/-- a log that was just made -/
def lg0 (per : Nat) : LG := ⟨per, 0, 0, 0, List.replicate 32 0, false⟩
set_option maxRecDepth 100000 in
theorem bldG_run (p per : Nat) (w : World) : (Instr.build 73 #[(0, .pointer (some ⟨p, 0, none⟩)), (1, .int .i64 (per : Int))]).run Tryz.prog w = .ok (.agg ((lg0 per).cells p).toArray) w := by
  kernel_rfl
theorem bldG {w : World} {ops : Array Oper} {rest : List Oper} {o : Oper} {ac : Act} {Q : Exit → Act → World → Prop} (hgd : o.guard = none) (x y : Operand) (ho : o.op = .build 73 #[(0, x), (1, y)])
    (p per : Nat) (hx : ac.eval x = .pointer (some ⟨p, 0, none⟩)) (hy : ac.eval y = .int .i64 (per : Int))
    (h : wpList Tryz.prog ops Q rest (ac.put o.dst (.agg ((lg0 per).cells p).toArray)) w) : wpList Tryz.prog ops Q (o :: rest) ac w := by
  refine wpList_plain hgd fun K hK' => ?_
  have hrun := bldG_run p per w
  unfold Oper.wp execOp
  simp only [ho, List.map_toArray, List.map_cons, List.map_nil, hx, hy, Sem.run_bind, hrun, Result.andThen_ok, Sem.run_pure]
  exact hK' _ _ h
set_option maxRecDepth 100000 in
set_option maxHeartbeats 2000000 in
theorem open_empty (w : World) (B p m : Nat) (x : AD) (h : DA w B p m x) (hon : x.on = true) (hfs : x.fs = []) (per : Nat) (h1 : 1 ≤ per) (h2 : per ≤ 1000) :
    Calls Tryz.prog 12 #[.pointer (some ⟨p, 0, none⟩), .int .i64 (per : Int)] w fun e w' => ∃ lp, w.heap.size ≤ lp ∧ e = .returned (.tuple #[.pointer (some ⟨lp, 0, none⟩), .slice none 0 0, .int .i64 0]) ∧ Lg w' lp p ⟨per, 0, 0, 1, List.replicate 32 0, false⟩ ∧ DA w' B p m x ∧ Below w.heap.size w w' := by
  have HA : Hid (DA w B p m x) := h
  have HON := (show Hid _ from on_any w B p m x h)
  have HNA := (show Hid _ from fun w' (k : Below w.heap.size w w') => names_any w' B p m x (h.step k))
  have HOK : Hid (lg0 per).ok := ⟨⟨h1, h2⟩, Nat.zero_le _, Nat.zero_le _, Nat.zero_le _⟩
  have HFS : Hid (nms x.fs = []) := (show nms x.fs = [] by rw [hfs]; rfl)
  rw [hon] at HON
  have d1 : ¬ (per : Int) < 1 := by omega
  have d2 : ¬ (1000 : Int) < (per : Int) := by omega
  clear h hfs h1 h2
  go_enter Tryz.func12, Tryz.ntmps12
  go_wp2_with fail
  refine Calls.mono HON.out ?_
  rintro e w1 ⟨rfl, rfl⟩
  go_upto_region 8 with (refine bldG rfl _ _ rfl p per (by rfl) (by rfl) ?_)
  have D := (Below.refl w1.heap.size w1).alloc (Nat.le_refl _) (.cells ((lg0 per).cells p).toArray 73)
  have HD := (show Hid _ from D)
  have HG : Hid (Lg (w1.alloc (.cells ((lg0 per).cells p).toArray 73)) w1.heap.size p (lg0 per)) := va_new w1 ((lg0 per).cells p) 73
  clear D HON
  generalize w1.alloc (.cells ((lg0 per).cells p).toArray 73) = w2 at *
  obtain ⟨lp, hlp⟩ : ∃ lp, lp = w1.heap.size := ⟨_, rfl⟩
  have HLP : Hid (lp = w1.heap.size) := hlp
  rw [← hlp] at HG ⊢
  clear hlp
  go_wp2_with fail
  refine Calls.mono (HNA.out _ HD.out) ?_
  rintro e w3 ⟨v, ns, rfl, hp, _, _, _, hnil, b3⟩
  have hns : ns = [] := by
    have h1 := hp hon
    have h2 : x.fs.map (·.1) = [] := HFS.out
    rw [h2] at h1
    exact List.perm_nil.1 h1
  have hv := hnil.2 hns
  subst hv
  have HD3 : Hid (Below w1.heap.size w1 w3) := HD.out.trans (b3.mono HD.out.size)
  have HG3 : Hid (Lg w3 lp p (lg0 per)) := HG.out.step b3
  clear hns hp hnil b3 HD HG HNA
  go_wp2_with fail
  refine (numbers_ok w3 (.slice none 0 0) [] ⟨none, 0, rfl, by simp, by omega, fun i l h => by simp at h⟩ (fun n h => by cases h) (by simp)).mono ?_
  rintro e w4 ⟨⟨u, rfl, o4⟩, b4⟩
  obtain ⟨ua, uc, rfl, _⟩ := o4.form
  have HD4 : Hid (Below w1.heap.size w1 w4) := HD3.out.trans (b4.mono HD3.out.size)
  have HG4 : Hid (Lg w4 lp p (lg0 per)) := HG3.out.step b4
  clear o4 b4 HD3 HG3
  go_wp2_with fail
  refine (read_none w4 lp p (lg0 per) HG4.out HOK.out ua uc).mono ?_
  rintro e w5 ⟨rfl, hL5, hB5⟩
  have HL5 : Hid (Lg w5 lp p ⟨per, 0, 0, 1, List.replicate 32 0, false⟩) := by
    have h0 : ({ lg0 per with high := (lg0 per).low, next := (lg0 per).low * (lg0 per).per + 1 } : LG) = ⟨per, 0, 0, 1, List.replicate 32 0, false⟩ := by
      show (⟨per, 0, 0, 0 * per + 1, List.replicate 32 0, false⟩ : LG) = _
      rw [Nat.zero_mul]
    rw [h0] at hL5
    exact hL5
  have HA5 : Hid (DA w5 B p m x) := (HA.out.step HD4.out).kel (hB5.kel HG4.out)
  have HB5 : Hid (Below w1.heap.size w1 w5) := HD4.out.trans (hB5.below HD4.out.size (fun i hi => by have h1 : i = lp := hi; have h2 := HLP.out; omega))
  clear hL5 hB5 HG4 HD4
  go_wp2_with fail
  refine bodyPost_ret (v := .tuple #[.pointer (some ⟨lp, 0, none⟩), .slice none 0 0, .int .i64 0]) (by simp [results, Tryz.results12, go_sem, asAddr]) rfl ?_
  exact ⟨lp, Nat.le_of_eq HLP.out.symm, rfl, HL5.out, HA5.out, HB5.out⟩
end Go.Proofs.YtkmdegmpffgplaaGreatDoor
