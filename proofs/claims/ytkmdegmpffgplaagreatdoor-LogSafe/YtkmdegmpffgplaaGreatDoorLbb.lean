/- log IV: follow, write. -/
import Derived.Test.YtkmdegmpffgplaaGreatDoorLba
namespace Go.Proofs.YtkmdegmpffgplaaGreatDoor
open Go.RowKit Go.Maps Go.Sort Go.Shelf pk
set_option linter.unusedVariables false
set_option linter.unusedSimpArgs false

theorem KeL.bel {w w' : World} (h : Below w.heap.size w w') : KeL w w' := ⟨h.os, h.tape, h.output, h.size, fun i o e _ => (h.block i (hlt_of e)).trans e⟩
theorem KeL.trans {a b c : World} (h : KeL a b) (k : KeL b c) : KeL a c := ⟨k.os.trans h.os, k.tape.trans h.tape, k.output.trans h.output, Nat.le_trans h.size k.size, fun i o e hn => k.blk i o (h.blk i o e hn) hn⟩
/-- the table of powers of ten lies below the disk -/
def PtB (B : Nat) (w : World) : Prop := ∀ w', Below B w w' → Pt10 w'
theorem PtB.on {B : Nat} {w w' : World} (h : PtB B w) (k : Below B w w') : PtB B w' := fun w2 k2 => h w2 (k.trans k2)
theorem PtB.pt {B : Nat} {w : World} (h : PtB B w) : Pt10 w := h w (Below.refl _ _)
theorem ptB_of {w : World} (h : Pt10 w) : PtB w.heap.size w := fun w' k => h.on k
/-- a part of a block is stored -/
theorem stMid {w : World} {ops : Array Oper} {rest : List Oper} {o : Oper} {a : Act} {Q : Exit → Act → World → Prop} (hgd : o.guard = none) (t : TypeId) (x y : Operand) (ho : o.op = .store t x y)
    (q off : Nat) (hx : a.eval x = .pointer (some ⟨q, off, none⟩)) (cs ds : List Value) (hy : a.eval y = .agg ds.toArray) (T : TypeId) (h : VA w q cs T) (hi : (Tryz.prog.info? t).map (·.size) = some ds.length) (hl : off + ds.length ≤ cs.length) (h1 : ∀ v ∈ ds, v.oneCell' = true)
    (k : ∀ w', VA w' q (cs.take off ++ ds ++ cs.drop (off + ds.length)) T → Upd q w w' → wpList Tryz.prog ops Q rest (a.put o.dst undef) w') : wpList Tryz.prog ops Q (o :: rest) a w := by
  refine wpList_plain hgd fun K hK' => ?_
  have hrun : (storeVar t ⟨q, off, none⟩ (.agg ds.toArray)).run Tryz.prog w = .ok () (w.setRow q (cs.take off ++ ds ++ cs.drop (off + ds.length)).toArray) := by
    have := run_storeCells_at (P := Tryz.prog) q off T ds 0 cs.toArray w h.blk (by simp; omega) h1
    cases hq : Tryz.prog.info? t with
    | none => simp [hq] at hi
    | some i =>
      have hs : ds.length = i.size := by simp [hq] at hi; omega
      simp only [Nat.add_zero] at this
      simp [storeVar, sizeOf, typeInfo, hq, Value.cells, hs, this]
  unfold Oper.wp execOp
  simp only [ho, hx, hy, Instr.storeAt, Instr.sureAddr, Sem.run_bind, Sem.run_pure, Result.andThen_ok, hrun]
  exact hK' _ _ (k _ ⟨setRow_heap w q _ _ _ _ h.blk⟩ (upd_setRow w q _))
theorem cells_len (g : LG) (p : Nat) : (g.cells p).length = 38 := by unfold LG.cells; simp [lnk_len]
theorem cells_lastset (g : LG) (p : Nat) (xs : List Nat) : (g.cells p).take 5 ++ lnk xs ++ (g.cells p).drop (5 + (lnk xs).length) = ({ g with last := xs } : LG).cells p := by
  rw [lnk_len]
  unfold LG.cells
  simp only [List.take_succ_cons, List.take_zero, List.drop_succ_cons, Nat.reduceAdd]
  rw [List.drop_append, List.drop_of_length_le (by rw [lnk_len]; omega), lnk_len]
  simp
set_option maxRecDepth 100000 in
set_option maxHeartbeats 1000000 in
theorem follow_ok (w : World) (lp p B : Nat) (g : LG) (h : Lg w lp p g) (hB : B ≤ lp) (ho : g.ok) (a : Option Addr) (L k : Nat) (xs : List Nat) :
    Calls Tryz.prog 32 #[.pointer (some ⟨lp, 0, none⟩), .agg (rcd a L k xs).toArray] w fun e w' => (∃ v, e = .returned v) ∧ Lg w' lp p { g with last := xs, next := g.next + 1 } ∧ KeL w w' ∧ Below B w w' ∧ But (fun i => i = lp) w w' := by
  have D := (Below.refl w.heap.size w).alloc (Nat.le_refl _) (.cells (rcd a L k xs).toArray 77)
  have HD := (show Hid _ from D)
  have HV := (show Hid _ from va_new w (rcd a L k xs) 77)
  have HL : Hid (Lg w lp p g) := h
  have HL0 := (show Hid _ from h.step D)
  have hlt := h.lt
  have hn := ho.next
  clear D h
  go_enter Tryz.func32, Tryz.ntmps32
  go_upto_region 1 with fail
  generalize w.alloc (.cells (rcd a L k xs).toArray 77) = w0 at *
  go_upto_region 2 with (first | (refine wpList_load_mid rfl 71 _ rfl w.heap.size 1 (by rfl) (lnk xs) _ (fun j v hv => HV.out.cell (1 + j) (by rw [Nat.add_comm]; exact hv)) Tryz.underlying71 rfl (infol.trans (by rw [lnk_len])) ?_) | (refine stMid rfl 71 _ _ rfl lp 5 (by rfl) (g.cells p) (lnk xs) (by rfl) _ HL0.out (infol.trans (by rw [lnk_len])) (by rw [lnk_len, cells_len]; omega) (fun u hu => lnk_one hu) ?_; intro w2 R2 U2; rw [cells_lastset] at R2))
  have HR : Hid (Lg w2 lp p { g with last := xs }) := R2
  have HK : Hid (KeL w w2) := (KeL.bel HD.out).trans (KeL.upd U2 HL0.out)
  have HBB : Hid (Below B w w2) := U2.bel (HD.out.mono (Nat.le_trans hB (Nat.le_of_lt hlt))) hB
  have HBT : Hid (But (fun i => i = lp) w w2) := (below_but HD.out _).trans U2.but (fun _ _ h => h)
  have y4 := R2.cell 4 (v := .int .i64 (g.next : Int)) rfl
  have f4 := R2.free 4
  clear R2 U2 HD HV HL HL0
  generalize hnx : g.next = nx at *
  have HNX := (show Hid _ from hnx)
  clear hnx
  go_wp2_with fail
  have e : (({ g with last := xs, next := nx } : LG).cells p).set 4 (.int .i64 ((nx : Int) + 1)) = ({ g with last := xs, next := nx + 1 } : LG).cells p := rfl
  have S := HR.out.set 4 (.int .i64 ((nx : Int) + 1))
  rw [e] at S
  refine bodyPost_end (v := .tuple #[]) (by simp [results, Tryz.results32, go_sem]) rfl ⟨⟨_, rfl⟩, ?_, HK.out.trans (KeL.upd (upd_set w2 lp 4 _) HR.out), (upd_set w2 lp 4 _).bel HBB.out hB, HBT.out.trans (upd_set w2 lp 4 _).but (fun _ _ h => h)⟩
  rw [HNX.out]
  exact S
/-- write in plain words -/
def sgm (g : LG) : Nat := (g.next - 1) / g.per
def wl1 (x : AD) (g : LG) (pl xs : List Nat) : Nat × AD := apnd x (nmS (sgm g)) (secL g.next pl xs)
def wl2 (x : AD) (g : LG) : Nat × AD := oper x ⟨1, nmS (sgm g), [], 0⟩
def wrL (x : AD) (g : LG) (pl xs : List Nat) : Nat × AD × LG :=
  if (wl1 x g pl xs).1 ≠ 0 then ((wl1 x g pl xs).1, (wl1 x g pl xs).2, g) else
  if (wl2 (wl1 x g pl xs).2 g).1 ≠ 0 then ((wl2 (wl1 x g pl xs).2 g).1, (wl2 (wl1 x g pl xs).2 g).2, g) else
  (0, (wl2 (wl1 x g pl xs).2 g).2, { g with high := sgm g })
theorem apnd_few (x : AD) (l : List UInt8) (bs : List Nat) : (apnd x l bs).2.ops ≤ x.ops + 1 ∧ (apnd x l bs).2.left ≤ x.left ∧ (apnd x l bs).1 ≤ 18 := by
  unfold apnd begA
  repeat' split
  all_goals (simp; try omega)
theorem oper_le (x : AD) (o : POp) : (oper x o).1 ≤ 18 := by
  unfold oper
  repeat' split
  all_goals simp
theorem secL_len (num : Nat) (p xs : List Nat) : (secL num p xs).length = 32 * cn4 (p.length + 4 + xs.length) := by unfold secL cutB; rw [cutK_len, List.length_append, List.length_append]; rfl
set_option maxRecDepth 100000 in
set_option maxHeartbeats 2000000 in
theorem lwrite_ok (w : World) (B p m lp : Nat) (x : AD) (g : LG) (h : DA w B p m x) (hg : Lg w lp p g) (hB : B ≤ lp) (ho : g.ok) (hn1 : 1 ≤ g.next) (hsg : sgm g ≤ 99999999) (hnx : g.next < 4294967296) (hT : PtB B w) (a : Option Addr) (L k : Nat) (pl xs : List Nat) (hp : Bs w (.slice a L k) pl) (hs : SafeL w (.slice a L k)) (h0 : 0 < pl.length) (hl : pl.length ≤ 4096) (hx : xs.length = 32) (hxb : By xs) (hops : x.ops ≤ 4611686018427387000) (hlf : x.left ≤ 9223372036854775807) :
    Calls Tryz.prog 31 #[.pointer (some ⟨lp, 0, none⟩), .agg (rcd a L k xs).toArray] w fun r w' => r = .returned (.int .i64 ((wrL x g pl xs).1 : Nat)) ∧ DA w' B p m (wrL x g pl xs).2.1 ∧ Lg w' lp p (wrL x g pl xs).2.2 ∧ Kel w w' ∧ Below B w w' := by
  have D := (Below.refl w.heap.size w).alloc (Nat.le_refl _) (.cells (rcd a L k xs).toArray 77)
  have HD := (show Hid _ from D)
  have HV0 := (show Hid _ from va_new w (rcd a L k xs) 77)
  have HA0 : Hid (DA w B p m x) := h
  have HLT : Hid (B ≤ w.heap.size) := h.lt
  have HL0 := (show Hid _ from hg.step D)
  have HSG := (show Hid _ from fun w' (kk : Lg w' lp p g) => segmentOf_ok w' lp p g kk ho g.next hn1 ho.next)
  have HT0 : Hid (PtB B w) := hT
  have HP0 : Hid (Bs w (.slice a L k) pl) := hp
  have HX : Hid (xs.length = 32 ∧ By xs) := ⟨hx, hxb⟩
  have HO : Hid (x.ops ≤ 4611686018427387000 ∧ x.left ≤ 9223372036854775807) := ⟨hops, hlf⟩
  have y4 := HL0.out.cell 4 (v := .int .i64 (g.next : Int)) rfl
  clear D h hg hT hp hs hx hxb hops hlf
  go_enter Tryz.func31, Tryz.ntmps31
  go_upto_region 1 with fail
  generalize w.alloc (.cells (rcd a L k xs).toArray 77) = w0 at *
  go_wp2_with fail
  refine Calls.mono (HSG.out _ HL0.out) ?_
  rintro e w0b ⟨rfl, rfl⟩
  obtain ⟨sg, hsgm⟩ : ∃ sg, sg = sgm g := ⟨_, rfl⟩
  have HSM : Hid (sg = sgm g) := hsgm
  rw [show (g.next - 1) / g.per = sgm g from rfl, ← hsgm]
  rw [← hsgm] at hsg
  have dsg : (sg : Int) < 100000000 := by omega
  clear hsgm y4
  obtain ⟨z, hz⟩ : ∃ z : Int, z = (sg : Int) := ⟨_, rfl⟩
  rw [← hz] at dsg ⊢
  have HZ := (show Hid (z = (sg : Int) ∧ sg ≤ 99999999) from ⟨hz, hsg⟩)
  clear hz hsg
  go_upto_region 4 with fail
  have hz := HZ.out.1
  have hsg := HZ.out.2
  subst hz
  clear HZ dsg
  generalize decide ((100000000 : Int) ≤ (sg : Int)) = dz
  have HW1 := (show Hid _ from show wl1 x g pl xs = apnd x (nmS sg) (secL g.next pl xs) by unfold wl1; rw [← HSM.out])
  refine wp_region_noPanic ?_
  refine wp_region_held_drew (S := fun V => Lg V lp p g ∧ VA V w.heap.size (rcd a L k xs) 77) (by kernel_rfl) ⟨VA.drew HL0.out, VA.drew HV0.out⟩ ?_
  intro hHeld
  have HBd : Hid (Below w.heap.size w w0b.drew) := HD.out.drew
  clear HL0 HV0 HD HSG
  generalize w0b.drew = w1 at *
  refine takeD 0 16 (.pointer (some ⟨lp, 0, none⟩)) (by exact rfl) rfl (by kernel_rfl) (by kernel_rfl) (by kernel_rfl) (fun _ _ _ h => h) (Or.inl ⟨by rfl, ?_⟩) (by assumption) ?_
  · intro wq hS
    go_simp
  try simp only [Act.put, List.setIfInBounds_toArray, List.set_cons_zero, List.set_cons_succ]
  refine takeD 1 17 (.pointer (some ⟨lp, 0, none⟩)) (by exact rfl) rfl (by kernel_rfl) (by kernel_rfl) (by kernel_rfl) (fun _ _ _ h => h) (Or.inl ⟨by rfl, ?_⟩) (by assumption) ?_
  · intro wq hS
    go_simp
  try simp only [Act.put, List.setIfInBounds_toArray, List.set_cons_zero, List.set_cons_succ]
  refine takeD 2 18 (.pointer (some ⟨lp, 0, none⟩)) (by exact rfl) rfl (by kernel_rfl) (by kernel_rfl) (by kernel_rfl) (fun _ _ _ h => h) (Or.inl ⟨by rfl, ?_⟩) (by assumption) ?_
  · intro wq hS
    go_simp
  try simp only [Act.put, List.setIfInBounds_toArray, List.set_cons_zero, List.set_cons_succ]
  refine takeD 3 19 (.pointer (some ⟨p, 0, none⟩)) (by exact rfl) rfl (by kernel_rfl) (by kernel_rfl) (by kernel_rfl) (fun _ _ _ h => h) (Or.inl ⟨by rfl, ?_⟩) (by assumption) ?_
  · intro wq hS
    have c := hS.1.cell 0 (v := .pointer (some ⟨p, 0, none⟩)) rfl
    go_simp
  try simp only [Act.put, List.setIfInBounds_toArray, List.set_cons_zero, List.set_cons_succ]
  refine takeD 4 20 (.int .i64 (sg : Int)) (by exact rfl) rfl (by kernel_rfl) (by kernel_rfl) (by kernel_rfl) (fun _ _ _ h => h) (Or.inl ⟨by rfl, ?_⟩) (by assumption) ?_
  · intro wq hS
    go_simp
  try simp only [Act.put, List.setIfInBounds_toArray, List.set_cons_zero, List.set_cons_succ]
  refine takeD 6 22 (.agg (rcd a L k xs).toArray) (by exact rfl) rfl (by kernel_rfl) (by kernel_rfl) (by kernel_rfl) (fun _ _ _ h => h) (yieldsIf_load_mid (by rfl) 77 _ rfl w.heap.size 0 (by rfl) (rcd a L k xs) _ (fun wq hS => fun j v hv => by rw [Nat.zero_add]; exact hS.2.cell j hv) Tryz.underlying77 rfl (info33.trans (by rw [rcd_len]))) (by assumption) ?_
  try simp only [Act.put, List.setIfInBounds_toArray, List.set_cons_zero, List.set_cons_succ]
  refine takeD 7 23 (.pointer (some ⟨lp, 0, none⟩)) (by exact rfl) rfl (by kernel_rfl) (by kernel_rfl) (by kernel_rfl) (fun _ _ _ h => h) (Or.inl ⟨by rfl, ?_⟩) (by assumption) ?_
  · intro wq hS
    go_simp
  try simp only [Act.put, List.setIfInBounds_toArray, List.set_cons_zero, List.set_cons_succ]
  refine takeD 8 24 (.pointer (some ⟨lp, 0, none⟩)) (by exact rfl) rfl (by kernel_rfl) (by kernel_rfl) (by kernel_rfl) (fun _ _ _ h => h) (Or.inl ⟨by rfl, ?_⟩) (by assumption) ?_
  · intro wq hS
    go_simp
  try simp only [Act.put, List.setIfInBounds_toArray, List.set_cons_zero, List.set_cons_succ]
  refine takeD 9 25 (.pointer (some ⟨lp, 4, none⟩)) (by exact rfl) rfl (by kernel_rfl) (by kernel_rfl) (by kernel_rfl) (fun _ _ _ h => h) (Or.inl ⟨by rfl, ?_⟩) (by assumption) ?_
  · intro wq hS
    go_simp
  try simp only [Act.put, List.setIfInBounds_toArray, List.set_cons_zero, List.set_cons_succ]
  refine takeD 10 26 (.int .i64 (g.next : Int)) (by exact rfl) rfl (by kernel_rfl) (by kernel_rfl) (by kernel_rfl) (fun _ _ _ h => h) (Or.inl ⟨by rfl, ?_⟩) (by assumption) ?_
  · intro wq hS
    have c := hS.1.cell 4 (v := .int .i64 (g.next : Int)) rfl
    go_simp
  try simp only [Act.put, List.setIfInBounds_toArray, List.set_cons_zero, List.set_cons_succ]
  refine wpAnyH_ready (rs := [5]) (by kernel_rfl) (by simp) ?_
  refine AllReadyH.cons (by exact rfl) (fun K hK => ?_) AllReadyH.nil
  go_simp
  refine (sname_ok sg w1 hsg (HT0.out.on (HBd.out.mono HLT.out)).pt).mono ?_
  rintro e w2 ⟨rfl, b2⟩
  have HB2 : Hid (Below w.heap.size w w2) := HBd.out.trans (b2.mono HBd.out.size)
  go_wp2_with fail
  refine hK.out _ _ ⟨hHeld.1.step b2, hHeld.2.step b2⟩ (fun hHeld => ?_)
  clear hK K b2 HBd
  try simp only [Act.put, List.setIfInBounds_toArray, List.set_cons_zero, List.set_cons_succ]
  refine wpAnyH_ready (rs := [11]) (by kernel_rfl) (by simp) ?_
  refine AllReadyH.cons (by exact rfl) (fun K hK => ?_) AllReadyH.nil
  go_simp
  refine (lsectors_ok g.next a L k pl xs w2 (HP0.out.step HB2.out) h0 hl HX.out.1 HX.out.2 hnx).mono ?_
  rintro e w3 ⟨⟨u3, rfl, o3⟩, b3⟩
  have HB3 : Hid (Below w.heap.size w w3) := HB2.out.trans (b3.mono HB2.out.size)
  have HO3 := (show Hid _ from o3)
  go_wp2_with fail
  refine hK.out _ _ ⟨hHeld.1.step b3, hHeld.2.step b3⟩ (fun hHeld => ?_)
  clear hK K b3 o3 HB2
  try simp only [Act.put, List.setIfInBounds_toArray, List.set_cons_zero, List.set_cons_succ]
  refine wpAnyH_ready (rs := [12]) (by kernel_rfl) (by simp) ?_
  refine AllReadyH.cons (by exact rfl) (fun K hK => ?_) AllReadyH.nil
  go_simp
  refine (append_any w3 B p m x (HA0.out.step HB3.out) ⟨(nmS sg).toArray⟩ (by show (nmS sg).toArray.size ≤ _; simp [nmS_len]) u3 (secL g.next pl xs) HO3.out.bs HO3.out.safe (by rw [secL_len]; have := HX.out.1; unfold cn4; omega) (Nat.le_trans HO.out.1 (by omega)) HO.out.2).mono ?_
  rintro e w4 ⟨he, h4⟩
  rw [show (⟨(nmS sg).toArray⟩ : ByteArray).data.toList = nmS sg from rfl, ← HW1.out] at he h4
  subst he
  have HA4 : Hid (DA w4 B p m (wl1 x g pl xs).2) := h4.1
  have HK4 : Hid (Kel w w4) := (Kee.kel (Kee.bel HB3.out)).trans h4.2.1.kel
  have HB4 : Hid (Below B w w4) := (HB3.out.mono HLT.out).trans h4.2.2
  have HL4 : Hid (Lg w4 lp p g) := hHeld.1.kee h4.2.1
  go_wp2_with fail
  refine hK.out _ _ ⟨HL4.out, hHeld.2.kee h4.2.1 (by unfold Dt; decide)⟩ (fun hHeld => ?_)
  clear hK K h4 HO3 HB3
  try simp only [Act.put, List.setIfInBounds_toArray, List.set_cons_zero, List.set_cons_succ]
  refine takeD 13 6 (.int .i64 ((wl1 x g pl xs).1 : Nat)) (by exact rfl) rfl (by kernel_rfl) (by kernel_rfl) (by kernel_rfl) (fun _ _ _ h => h) (Or.inl ⟨by rfl, ?_⟩) (by assumption) ?_
  · intro wq hS
    go_simp
  try simp only [Act.put, List.setIfInBounds_toArray, List.set_cons_zero, List.set_cons_succ]
  refine wpAnyH_done (by kernel_rfl) ?_ _
  refine NoPanic.normal ?_
  have HT4 : Hid (PtB B w4) := HT0.out.on HB4.out
  have HF1 := (show Hid _ from apnd_few x (nmS sg) (secL g.next pl xs))
  rw [← HW1.out] at HF1
  clear HA0 HT0 HP0 HW1
  by_cases hr1 : (wl1 x g pl xs).1 = 0
  rotate_left
  · have HWR : Hid (wrL x g pl xs = ((wl1 x g pl xs).1, (wl1 x g pl xs).2, g)) := (show _ = _ by unfold wrL; rw [if_pos hr1])
    have hr1b : (((wl1 x g pl xs).1 : Int) = 0) = False := by simp; exact hr1
    generalize (wl1 x g pl xs).1 = r1 at *
    have hh := HF1.out.2.2
    have dn : ¬ (r1 : Int) = 0 := by omega
    have db : ((r1 : Int) == 0) = false := by simp; omega
    have dc : ((r1 : Int) != 0) = true := by simp; omega
    clear hHeld HF1 hr1 hr1b
    go_wp2_with fail
    go_ret
    rw [HWR.out]
    exact ⟨rfl, HA4.out, HL4.out, HK4.out, HB4.out⟩
  rw [hr1]
  go_upto_region 7 with fail
  have HW2 := (show Hid _ from show wl2 (wl1 x g pl xs).2 g = oper (wl1 x g pl xs).2 ⟨1, nmS sg, [], 0⟩ by unfold wl2; rw [← HSM.out])
  clear hHeld
  refine wp_region_noPanic ?_
  refine wp_region_held_drew (S := fun V => Lg V lp p g) (by kernel_rfl) (VA.drew HL4.out) ?_
  intro hHeld
  have HBd : Hid (Below w4.heap.size w4 w4.drew) := (Below.refl _ _).drew
  generalize w4.drew = w5 at *
  refine takeD 0 32 (.pointer (some ⟨lp, 0, none⟩)) (by exact rfl) rfl (by kernel_rfl) (by kernel_rfl) (by kernel_rfl) (fun _ _ _ h => h) (Or.inl ⟨by rfl, ?_⟩) (by assumption) ?_
  · intro wq hS
    go_simp
  try simp only [Act.put, List.setIfInBounds_toArray, List.set_cons_zero, List.set_cons_succ]
  refine takeD 1 33 (.pointer (some ⟨lp, 0, none⟩)) (by exact rfl) rfl (by kernel_rfl) (by kernel_rfl) (by kernel_rfl) (fun _ _ _ h => h) (Or.inl ⟨by rfl, ?_⟩) (by assumption) ?_
  · intro wq hS
    go_simp
  try simp only [Act.put, List.setIfInBounds_toArray, List.set_cons_zero, List.set_cons_succ]
  refine takeD 2 34 (.pointer (some ⟨lp, 0, none⟩)) (by exact rfl) rfl (by kernel_rfl) (by kernel_rfl) (by kernel_rfl) (fun _ _ _ h => h) (Or.inl ⟨by rfl, ?_⟩) (by assumption) ?_
  · intro wq hS
    go_simp
  try simp only [Act.put, List.setIfInBounds_toArray, List.set_cons_zero, List.set_cons_succ]
  refine takeD 3 35 (.pointer (some ⟨p, 0, none⟩)) (by exact rfl) rfl (by kernel_rfl) (by kernel_rfl) (by kernel_rfl) (fun _ _ _ h => h) (Or.inl ⟨by rfl, ?_⟩) (by assumption) ?_
  · intro wq hS
    have c := hS.cell 0 (v := .pointer (some ⟨p, 0, none⟩)) rfl
    go_simp
  try simp only [Act.put, List.setIfInBounds_toArray, List.set_cons_zero, List.set_cons_succ]
  refine takeD 4 36 (.int .i64 (sg : Int)) (by exact rfl) rfl (by kernel_rfl) (by kernel_rfl) (by kernel_rfl) (fun _ _ _ h => h) (Or.inl ⟨by rfl, ?_⟩) (by assumption) ?_
  · intro wq hS
    go_simp
  try simp only [Act.put, List.setIfInBounds_toArray, List.set_cons_zero, List.set_cons_succ]
  refine wpAnyH_ready (rs := [5]) (by kernel_rfl) (by simp) ?_
  refine AllReadyH.cons (by exact rfl) (fun K hK => ?_) AllReadyH.nil
  go_simp
  refine (sname_ok sg w5 hsg (HT4.out.on (HBd.out.mono HA4.out.lt)).pt).mono ?_
  rintro e w6 ⟨rfl, b6⟩
  have HB6 : Hid (Below w4.heap.size w4 w6) := HBd.out.trans (b6.mono HBd.out.size)
  go_wp2_with fail
  refine hK.out _ _ (hHeld.step b6) (fun hHeld => ?_)
  clear hK K b6 HBd
  try simp only [Act.put, List.setIfInBounds_toArray, List.set_cons_zero, List.set_cons_succ]
  refine wpAnyH_ready (rs := [6]) (by kernel_rfl) (by simp) ?_
  refine AllReadyH.cons (by exact rfl) (fun K hK => ?_) AllReadyH.nil
  go_simp
  refine (sync_any w6 B p m (wl1 x g pl xs).2 (HA4.out.step HB6.out) ⟨(nmS sg).toArray⟩ (by show (nmS sg).toArray.size ≤ _; simp [nmS_len]) (Nat.le_trans HF1.out.1 (by have := HO.out.1; omega)) (Nat.le_trans HF1.out.2.1 HO.out.2)).mono ?_
  rintro e w7 ⟨he, h7⟩
  rw [show (⟨(nmS sg).toArray⟩ : ByteArray).data.toList = nmS sg from rfl, ← HW2.out] at he h7
  subst he
  have HA7 : Hid (DA w7 B p m (wl2 (wl1 x g pl xs).2 g).2) := h7.1
  have HK7 : Hid (Kel w w7) := HK4.out.trans ((Kee.kel (Kee.bel HB6.out)).trans h7.2.1.kel)
  have HB7 : Hid (Below B w w7) := HB4.out.trans ((HB6.out.mono HA4.out.lt).trans h7.2.2)
  have HL7 : Hid (Lg w7 lp p g) := hHeld.kee h7.2.1
  go_wp2_with fail
  refine hK.out _ _ HL7.out (fun hHeld => ?_)
  clear hK K h7 HB6
  try simp only [Act.put, List.setIfInBounds_toArray, List.set_cons_zero, List.set_cons_succ]
  refine takeD 7 7 (.int .i64 ((wl2 (wl1 x g pl xs).2 g).1 : Nat)) (by exact rfl) rfl (by kernel_rfl) (by kernel_rfl) (by kernel_rfl) (fun _ _ _ h => h) (Or.inl ⟨by rfl, ?_⟩) (by assumption) ?_
  · intro wq hS
    go_simp
  try simp only [Act.put, List.setIfInBounds_toArray, List.set_cons_zero, List.set_cons_succ]
  refine wpAnyH_done (by kernel_rfl) ?_ _
  refine NoPanic.normal ?_
  have hle := oper_le (wl1 x g pl xs).2 ⟨1, nmS sg, [], 0⟩
  rw [← HW2.out] at hle
  clear hHeld HW2 HA4 HK4 HB4 HL4 HT4
  by_cases hr2 : (wl2 (wl1 x g pl xs).2 g).1 = 0
  rotate_left
  · have HWR : Hid (wrL x g pl xs = ((wl2 (wl1 x g pl xs).2 g).1, (wl2 (wl1 x g pl xs).2 g).2, g)) := (show _ = _ by unfold wrL; rw [if_neg (by rw [hr1]; decide), if_pos hr2])
    generalize (wl2 (wl1 x g pl xs).2 g).1 = r2 at *
    have dn : ¬ (r2 : Int) = 0 := by omega
    have db : ((r2 : Int) == 0) = false := by simp; omega
    have dc : ((r2 : Int) != 0) = true := by simp; omega
    clear hr2 hr1 HF1
    go_wp2_with fail
    go_ret
    rw [HWR.out]
    exact ⟨rfl, HA7.out, HL7.out, HK7.out, HB7.out⟩
  have HWR : Hid (wrL x g pl xs = (0, (wl2 (wl1 x g pl xs).2 g).2, { g with high := sg })) := (show _ = _ by unfold wrL; rw [if_neg (by rw [hr1]; decide), if_neg (by rw [hr2]; decide), HSM.out])
  rw [hr2]
  have y3 := HL7.out.cell 3 (v := .int .i64 (g.high : Int)) rfl
  have f3 := HL7.out.free 3
  clear hr2 hr1 HF1 hle
  go_wp2_with fail
  go_ret
  rw [HWR.out]
  have U := upd_set w7 lp 3 (.int .i64 (sg : Int))
  have K := KeL.upd U HL7.out
  have V : Lg (w7.setCell ⟨lp, 3, none⟩ (.int .i64 (sg : Int))) lp p { g with high := sg } := HL7.out.set 3 (.int .i64 (sg : Int))
  exact ⟨rfl, HA7.out.kel K, V, HK7.out.trans K.kel, U.bel HB7.out hB⟩
end Go.Proofs.YtkmdegmpffgplaaGreatDoor
/- log V: a record is built. -/
namespace Go.Proofs.YtkmdegmpffgplaaGreatDoor
open Go.RowKit Go.Maps Go.Sort Go.Shelf pk
set_option linter.unusedVariables false
set_option linter.unusedSimpArgs false
set_option maxRecDepth 100000 in
theorem bldR_run (a : Option Addr) (L k : Nat) (xs : List Nat) (w : World) : (Instr.build 77 #[(0, .slice a L k), (1, .agg (lnk xs).toArray)]).run Tryz.prog w = .ok (.agg (rcd a L k xs).toArray) w := by
  kernel_rfl
theorem bldR {w : World} {ops : Array Oper} {rest : List Oper} {o : Oper} {ac : Act} {Q : Exit → Act → World → Prop} (hgd : o.guard = none) (x y : Operand) (ho : o.op = .build 77 #[(0, x), (1, y)])
    (a : Option Addr) (L k : Nat) (xs : List Nat) (hx : ac.eval x = .slice a L k) (hy : ac.eval y = .agg (lnk xs).toArray)
    (h : wpList Tryz.prog ops Q rest (ac.put o.dst (.agg (rcd a L k xs).toArray)) w) : wpList Tryz.prog ops Q (o :: rest) ac w := by
  refine wpList_plain hgd fun K hK' => ?_
  have hrun := bldR_run a L k xs w
  unfold Oper.wp execOp
  simp only [ho, List.map_toArray, List.map_cons, List.map_nil, hx, hy, Sem.run_bind, hrun, Result.andThen_ok, Sem.run_pure]
  exact hK' _ _ h
end Go.Proofs.YtkmdegmpffgplaaGreatDoor
