/- texts of the model: Mod Moe Mof Mos Mog Moh Moi Moj Mot Mou -/
import Derived.Test.YtjkiplndbcmmbaaGreatDoorW30
import Derived.Test.YtjkiplndbcmmbaaGreatDoorW24
import Derived.Deep.RegionHeld3
import Derived.Test.YtjkiplndbcmmbaaGreatDoorW26
import Derived.Test.YtjkiplndbcmmbaaGreatDoorW20
import Derived.Great.BuildSlice
set_option linter.unusedVariables false
set_option linter.unusedSimpArgs false
set_option maxHeartbeats 16000000
set_option maxRecDepth 100000
namespace Go.Proofs.YtjkiplndbcmmbaaGreatDoor
open Tryz
open Go.RowKit Go.Maps
theorem sM {x : PV} (h : chk x = 0) : 0 ≤ x.lim ∧ x.lim ≤ 10000000000000 := by
 unfold chk at h
 split at h
 ·rename_i h1
  unfold PV.inr at h1
  simp only [Bool.and_eq_true] at h1
  have h2 := h1.2
  unfold wi at h2
  simpa using h2
 ·cases h
theorem kq {vs : List PV} {id day : Int} {x : PV} (h : hold vs id day = some x) : x ∈ vs := by
 unfold hold at h
 exact List.mem_reverse.1 (List.mem_of_find?_eq_some h)
def verO (M : PM) (id : Int) : Option PV := hold M.vs id M.day
def ver (M : PM) (id : Int) : PV := (verO M id).getD zeroV
theorem MD.lim {w : World} {B : Nat} {F : FB} {M : PM} (h : MD w B F M) (id : Int) : 0 ≤ (ver M id).lim ∧ (ver M id).lim ≤ 10000000000000 := by
 obtain ⟨S, hC⟩ := h.cat
 unfold ver
 cases hv : verO M id with
 | none => exact ⟨by decide, by decide⟩
 | some x => exact sM (hC.fine x (kq hv))
theorem d8 (w : World) (B : Nat) (F : FB) (M : PM) (h : MD w B F M) (id : Int) :
  Calls prog 138 #[.pointer (some ⟨F.pc, 0, none⟩), .int .i64 id, .int .i64 M.day] w fun e w' => (∃ v, e = .returned (.tuple #[.agg ((ver M id).cells v).toArray, .int .i64 (if (verO M id).isSome then 0 else 7)]) ∧ OwnT w' w.heap.size v (ver M id).ts) ∧ Below w.heap.size w w' := by
 obtain ⟨S, hC⟩ := h.cat
 have hd : wi M.day 1 3652059 = true := br h.wf.day.1 h.wf.day.2
 refine (pA id M.day w hC).mono ?_
 rintro e w' ⟨ha, hb⟩
 refine ⟨?_, hb⟩
 unfold ver verO
 rcases ha with ⟨h1, _⟩ | ⟨_, h2, rfl⟩ | ⟨_, x, v, _, h2, rfl, h3⟩
 ·rw [hd] at h1; cases h1
 ·rw [h2]
  exact ⟨_, rfl, bV _ _⟩
 ·rw [h2]
  exact ⟨v, rfl, h3⟩
theorem OwnT.updV {w w' : World} {B p : Nat} {v : Value} {ts : List (Int × Int)} {cs : List Value} {T : TypeId} (h : OwnT w B v ts) (V : VA w p cs T) (hT : T ≠ 102) (k : Upd p w w') : OwnT w' B v ts :=
 h.blk' fun g hg => k.block g (fun e => by
  obtain ⟨ds, e1⟩ := h.blkT hg
  subst e
  have := V.blk.symm.trans e1
  simp only [Option.some.injEq, Obj.cells.injEq] at this
  exact hT this.2.1)
theorem PA.told_one (a : PA) : ∀ v ∈ a.told, v.oneCell' = true := by
 intro v hv
 unfold PA.told at hv
 simp at hv
 rcases hv with rfl | rfl | rfl | rfl | rfl | rfl | rfl | rfl <;> rfl
theorem cw : (prog.info? 36).map (·.size) = some 8 := by kernel_rfl
theorem iz (w : World) (B : Nat) (F : FB) (M : PM) (h : MD w B F M) (a : PA) :
  Calls prog 158 #[.pointer (some ⟨F.pm, 0, none⟩), .agg a.told.toArray] w fun e w' => (∃ v, e = .returned (.agg ((ver M a.prod).cells v).toArray) ∧ OwnT w' w.heap.size v (ver M a.prod).ts) ∧ Below w.heap.size w w' := by
 obtain ⟨er, her⟩ : ∃ er : Int, er = if (verO M a.prod).isSome then 0 else 7 := ⟨_, rfl⟩
 have HER : Hid (er = if (verO M a.prod).isSome then 0 else 7) := her
 clear her
 have B1 := (Below.refl w.heap.size w).alloc (Nat.le_refl _) (.cells a.told.toArray 36)
 have BB_0 := hI_ (B1.alloc (by simp) (.cells #[.int .i64 0, .int .i64 0, .int .i64 0, .int .i64 0, .int .i64 0, .int .i64 0, .int .i64 0, .int .i64 0, .slice none 0 0] 162))
 have HM_0 := hI_ (h.step BB_0.out)
 have HX_0 := hI_ ((aa w a.told 36).alloc (.cells #[.int .i64 0, .int .i64 0, .int .i64 0, .int .i64 0, .int .i64 0, .int .i64 0, .int .i64 0, .int .i64 0, .slice none 0 0] 162))
 have hr := aa (w.alloc (.cells a.told.toArray 36)) ([.int .i64 0, .int .i64 0, .int .i64 0, .int .i64 0, .int .i64 0, .int .i64 0, .int .i64 0, .int .i64 0, .slice none 0 0]) 162
 rw [World.size_alloc] at hr
 have HR_0 := hI_ hr
 clear h B1 hr
 go_enter func158, ntmps158
 go_upto_region 1 with fail
 generalize hW : (w.alloc (.cells a.told.toArray 36)).alloc (.cells #[.int .i64 0, .int .i64 0, .int .i64 0, .int .i64 0, .int .i64 0, .int .i64 0, .int .i64 0, .int .i64 0, .slice none 0 0] 162) = w0 at *
 clear hW
 refine wp_region_noPanic ?_
 refine wp_region_held_drew (S := fun V => VA V F.pm (mcells F M) 100 ∧ VA V w.heap.size a.told 36) (by kernel_rfl) (⟨HM_0.out.va.drew, HX_0.out.drew⟩) ?_
 intro hh_
 have bz := (Below.refl w0.heap.size w0).drew
 have HM_z := hI_ (HM_0.out.step bz)
 have HX_z := hI_ (HX_0.out.step bz)
 have HR_z := hI_ (HR_0.out.step bz)
 have BB_z := hI_ (BB_0.out.trans (bz.mono BB_0.out.size))
 generalize w0.drew = wz at *
 clear bz
 refine tL 0 8 (.pointer (some ⟨F.pm, 0, none⟩)) ?_ ?_
 ·intro wq hS
  go_simp
 try simp only [nrm]
 refine tL 1 9 (.pointer (some ⟨F.pm, 0, none⟩)) ?_ ?_
 ·intro wq hS
  go_simp
 try simp only [nrm]
 refine tL 2 10 (.pointer (some ⟨F.pm, 1, none⟩)) ?_ ?_
 ·intro wq hS
  go_simp
 try simp only [nrm]
 refine tL 3 11 (.pointer (some ⟨F.pc, 0, none⟩)) ?_ ?_
 ·intro wq hS
  have c := VA.cell hS.1 1 (v := .pointer (some ⟨F.pc, 0, none⟩)) rfl
  go_simp
 try simp only [nrm]
 refine tL 4 12 (.pointer (some ⟨w.heap.size, 1, none⟩)) ?_ ?_
 ·intro wq hS
  go_simp
 try simp only [nrm]
 refine tL 5 13 (.int .i64 a.prod) ?_ ?_
 ·intro wq hS
  have c := VA.cell hS.2 1 (v := .int .i64 a.prod) rfl
  go_simp
 try simp only [nrm]
 refine tL 6 14 (.pointer (some ⟨F.pm, 0, none⟩)) ?_ ?_
 ·intro wq hS
  go_simp
 try simp only [nrm]
 refine tL 7 15 (.pointer (some ⟨F.pm, 0, none⟩)) ?_ ?_
 ·intro wq hS
  go_simp
 try simp only [nrm]
 refine tL 8 16 (.pointer (some ⟨F.pm, 0, none⟩)) ?_ ?_
 ·intro wq hS
  go_simp
 try simp only [nrm]
 refine tL 9 17 (.int .i64 M.day) ?_ ?_
 ·intro wq hS
  have c := VA.cell hS.1 0 (v := .int .i64 M.day) rfl
  go_simp
 try simp only [nrm]
 clear hh_
 refine wpAnyH_ready (rs := [10, 14]) (by kernel_rfl) (by simp) ?_
 refine AllReadyH.cons (by exact rfl) (fun K hK => ?_) (AllReadyH.cons (by exact rfl) (fun K hK => ?_) AllReadyH.nil)
 ·go_simp
  refine Calls.mono (d8 wz B F M HM_z.out a.prod) ?_
  rintro e w1 ⟨⟨v, rfl, o1⟩, b1⟩
  have HM_1 := hI_ (HM_z.out.step b1)
  have HX_1 := hI_ (HX_z.out.step b1)
  have HR_1 := hI_ (HR_z.out.step b1)
  have BB_1 := hI_ (BB_z.out.trans (b1.mono BB_z.out.size))
  rw [← HER.out]
  have OV_1 : Hid (OwnT w1 w.heap.size v (ver M a.prod).ts) := o1.lower BB_z.out.size
  clear o1 b1
  go_wp2_with fail
  refine hK.out _ _ (⟨HM_1.out.va, HX_1.out⟩) (fun hh_ => ?_)
  try simp only [nrm]
  clear hK K
  refine tL 11 7 (.tuple #[.agg ((ver M a.prod).cells v).toArray, .int .i64 er]) ?_ ?_
  ·intro wq hS
   go_simp
  try simp only [nrm]
  refine tL 12 19 (.agg ((ver M a.prod).cells v).toArray) ?_ ?_
  ·intro wq hS
   go_simp
  try simp only [nrm]
  refine tL 13 20 (.int .i64 er) ?_ ?_
  ·intro wq hS
   go_simp
  try simp only [nrm]
  clear hh_
  refine rdy 14 (fun K hK => ?_)
  go_simp
  have b2 := (Below.refl w1.heap.size w1).alloc (Nat.le_refl _) (.cells #[.int .i64 0, .int .i64 0, .int .i64 0, .int .i64 0, .int .i64 0, .int .i64 0, .int .i64 0, .int .i64 0, .slice none 0 0] 162)
  have HM_2 := hI_ (HM_1.out.step b2)
  have HX_2 := hI_ (HX_1.out.step b2)
  have HR_2 := hI_ (HR_1.out.step b2)
  have OV_2 := hI_ (OV_1.out.step b2)
  have BB_2 := hI_ (BB_1.out.trans (b2.mono BB_1.out.size))
  have HN_2 := hI_ (aa w1 ([.int .i64 0, .int .i64 0, .int .i64 0, .int .i64 0, .int .i64 0, .int .i64 0, .int .i64 0, .int .i64 0, .slice none 0 0] : List Value) 162)
  have QLqn : Hid (w.heap.size ≤ w1.heap.size) := BB_1.out.size
  have QNE : Hid (w.heap.size + 1 ≠ w1.heap.size) := Nat.ne_of_lt HR_1.out.lt
  refine hK.out _ _ (⟨HM_2.out.va, HX_2.out⟩) (fun hh_ => ?_)
  try simp only [nrm]
  clear hK K b2
  generalize w1.alloc (.cells #[.int .i64 0, .int .i64 0, .int .i64 0, .int .i64 0, .int .i64 0, .int .i64 0, .int .i64 0, .int .i64 0, .slice none 0 0] 162) = w2 at *
  generalize w1.heap.size = qn at *
  refine rdy 15 (fun K hK => ?_)
  refine dW (by rfl) rfl 162 _ _ rfl qn (by rfl) ([.int .i64 0, .int .i64 0, .int .i64 0, .int .i64 0, .int .i64 0, .int .i64 0, .int .i64 0, .int .i64 0, .slice none 0 0]) ((ver M a.prod).cells v) (by rfl) 162 HN_2.out infoP rfl (bD _ (OV_2.out.form)) ?_
  intro wf vf uf
  have HR_f := hI_ (HR_2.out.upd uf QNE.out)
  have OV_f := hI_ (OwnT.updV OV_2.out HN_2.out (by decide) uf)
  have BB_f := hI_ (uf.bel BB_2.out QLqn.out)
  have HN_f := hI_ vf
  refine hK.out _ _ ⟨HM_2.out.va.upd uf (HM_2.out.va.ne HN_2.out (by decide)), HX_2.out.upd uf (HX_2.out.ne HN_2.out (by decide))⟩ (fun hh_ => ?_)
  clear hK K uf vf
  try simp only [nrm]
  refine tL 16 6 (.int .i64 er) ?_ ?_
  ·intro wq hS
   go_simp
  try simp only [nrm]
  refine dN ?_
  clear hh_
  go_wp2_with (first
   | (refine ldA rfl 162 _ rfl qn (by rfl) ((ver M a.prod).cells v) _ HN_f.out _ underlying162 rfl infoP ?_)
   | (refine stA rfl 162 _ _ rfl (w.heap.size + 1) (by rfl) _ ((ver M a.prod).cells v) (by rfl) 162 HR_f.out infoP rfl (bD _ (OV_f.out.form)) ?_; intro w6 V6 U6))
  refine bodyPost_ret (v := .agg ((ver M a.prod).cells v).toArray) ?_ rfl ⟨⟨v, rfl, OwnT.updV OV_f.out HR_f.out (by decide) U6⟩, U6.bel BB_f.out (by omega)⟩
  have hld := run_loadVar_row (P := prog) w6 (w.heap.size + 1) 162 162 _ (0, 0) _ V6.blk underlying162 rfl infoP
  simp [results, results158, asAddr, Act.put, hld]
 ·go_simp
  have b1 := (Below.refl wz.heap.size wz).alloc (Nat.le_refl _) (.cells #[.int .i64 0, .int .i64 0, .int .i64 0, .int .i64 0, .int .i64 0, .int .i64 0, .int .i64 0, .int .i64 0, .slice none 0 0] 162)
  have HM_1 := hI_ (HM_z.out.step b1)
  have HX_1 := hI_ (HX_z.out.step b1)
  have HR_1 := hI_ (HR_z.out.step b1)
  have BB_1 := hI_ (BB_z.out.trans (b1.mono BB_z.out.size))
  have HN_1 := hI_ (aa wz ([.int .i64 0, .int .i64 0, .int .i64 0, .int .i64 0, .int .i64 0, .int .i64 0, .int .i64 0, .int .i64 0, .slice none 0 0] : List Value) 162)
  have QLqn : Hid (w.heap.size ≤ wz.heap.size) := BB_z.out.size
  have QNE : Hid (w.heap.size + 1 ≠ wz.heap.size) := Nat.ne_of_lt HR_z.out.lt
  refine hK.out _ _ (⟨HM_1.out.va, HX_1.out⟩) (fun hh_ => ?_)
  try simp only [nrm]
  clear hK K b1
  generalize wz.alloc (.cells #[.int .i64 0, .int .i64 0, .int .i64 0, .int .i64 0, .int .i64 0, .int .i64 0, .int .i64 0, .int .i64 0, .slice none 0 0] 162) = w1 at *
  generalize wz.heap.size = qn at *
  clear hh_
  refine rdy 10 (fun K hK => ?_)
  go_simp
  refine Calls.mono (d8 w1 B F M HM_1.out a.prod) ?_
  rintro e w2 ⟨⟨v, rfl, o1⟩, b2⟩
  have HM_2 := hI_ (HM_1.out.step b2)
  have HX_2 := hI_ (HX_1.out.step b2)
  have HR_2 := hI_ (HR_1.out.step b2)
  have HN_2 := hI_ (HN_1.out.step b2)
  have BB_2 := hI_ (BB_1.out.trans (b2.mono BB_1.out.size))
  rw [← HER.out]
  have OV_2 : Hid (OwnT w2 w.heap.size v (ver M a.prod).ts) := o1.lower BB_1.out.size
  clear o1 b2
  go_wp2_with fail
  refine hK.out _ _ (⟨HM_2.out.va, HX_2.out⟩) (fun hh_ => ?_)
  try simp only [nrm]
  clear hK K
  refine tL 11 7 (.tuple #[.agg ((ver M a.prod).cells v).toArray, .int .i64 er]) ?_ ?_
  ·intro wq hS
   go_simp
  try simp only [nrm]
  refine tL 12 19 (.agg ((ver M a.prod).cells v).toArray) ?_ ?_
  ·intro wq hS
   go_simp
  try simp only [nrm]
  refine tL 13 20 (.int .i64 er) ?_ ?_
  ·intro wq hS
   go_simp
  try simp only [nrm]
  refine rdy 15 (fun K hK => ?_)
  refine dW (by rfl) rfl 162 _ _ rfl qn (by rfl) ([.int .i64 0, .int .i64 0, .int .i64 0, .int .i64 0, .int .i64 0, .int .i64 0, .int .i64 0, .int .i64 0, .slice none 0 0]) ((ver M a.prod).cells v) (by rfl) 162 HN_2.out infoP rfl (bD _ (OV_2.out.form)) ?_
  intro wf vf uf
  have HR_f := hI_ (HR_2.out.upd uf QNE.out)
  have OV_f := hI_ (OwnT.updV OV_2.out HN_2.out (by decide) uf)
  have BB_f := hI_ (uf.bel BB_2.out QLqn.out)
  have HN_f := hI_ vf
  refine hK.out _ _ ⟨HM_2.out.va.upd uf (HM_2.out.va.ne HN_2.out (by decide)), HX_2.out.upd uf (HX_2.out.ne HN_2.out (by decide))⟩ (fun hh_ => ?_)
  clear hK K uf vf
  try simp only [nrm]
  refine tL 16 6 (.int .i64 er) ?_ ?_
  ·intro wq hS
   go_simp
  try simp only [nrm]
  refine dN ?_
  clear hh_
  go_wp2_with (first
   | (refine ldA rfl 162 _ rfl qn (by rfl) ((ver M a.prod).cells v) _ HN_f.out _ underlying162 rfl infoP ?_)
   | (refine stA rfl 162 _ _ rfl (w.heap.size + 1) (by rfl) _ ((ver M a.prod).cells v) (by rfl) 162 HR_f.out infoP rfl (bD _ (OV_f.out.form)) ?_; intro w6 V6 U6))
  refine bodyPost_ret (v := .agg ((ver M a.prod).cells v).toArray) ?_ rfl ⟨⟨v, rfl, OwnT.updV OV_f.out HR_f.out (by decide) U6⟩, U6.bel BB_f.out (by omega)⟩
  have hld := run_loadVar_row (P := prog) w6 (w.heap.size + 1) 162 162 _ (0, 0) _ V6.blk underlying162 rfl infoP
  simp [results, results158, asAddr, Act.put, hld]
def spend (M : PM) (a : PA) : Int := a.bal + (ver M a.prod).lim - a.held
theorem qi (x : PV) (v : Value) (w : World) : (Instr.field 162 (.agg (x.cells v).toArray) 7).run prog w = .ok (.int .i64 x.lim) w := by kernel_rfl
theorem jP (w : World) (B : Nat) (F : FB) (M : PM) (h : MD w B F M) (a : PA) (hw : a.wf) :
  Calls prog 156 #[.pointer (some ⟨F.pm, 0, none⟩), .agg a.told.toArray] w fun e w' => e = .returned (.int .i64 (spend M a)) ∧ Below w.heap.size w w' := by
 unfold spend
 have hlim := h.lim a.prod
 obtain ⟨L, hL⟩ : ∃ L, L = (ver M a.prod).lim := ⟨_, rfl⟩
 rw [← hL] at hlim ⊢
 have HL : Hid (L = (ver M a.prod).lim) := hL
 have h1 := hw.bal
 have h2 := hw.held
 have BB_0 := hI_ ((Below.refl w.heap.size w).alloc (Nat.le_refl _) (.cells a.told.toArray 36))
 have HM_0 := hI_ (h.step BB_0.out)
 have HX_0 := hI_ (aa w a.told 36)
 clear h hL
 go_enter func156, ntmps156
 go_upto_region 1 with fail
 generalize hW : w.alloc (.cells a.told.toArray 36) = w0 at *
 clear hW
 refine wp_region_noPanic ?_
 refine wp_region_held_drew (S := fun V => VA V w.heap.size a.told 36) (by kernel_rfl) (HX_0.out.drew) ?_
 intro hh_
 have bz := (Below.refl w0.heap.size w0).drew
 have HM_z := hI_ (HM_0.out.step bz)
 have HX_z := hI_ (HX_0.out.step bz)
 have BB_z := hI_ (BB_0.out.trans (bz.mono BB_0.out.size))
 generalize w0.drew = wz at *
 clear bz
 refine tL 0 5 (.pointer (some ⟨w.heap.size, 5, none⟩)) ?_ ?_
 ·intro wq hS
  go_simp
 try simp only [nrm]
 refine tL 1 6 (.int .i64 a.bal) ?_ ?_
 ·intro wq hS
  have c := VA.cell hS 5 (v := .int .i64 a.bal) rfl
  go_simp
 try simp only [nrm]
 refine tL 2 7 (.pointer (some ⟨F.pm, 0, none⟩)) ?_ ?_
 ·intro wq hS
  go_simp
 try simp only [nrm]
 refine tK 3 8 (.agg a.told.toArray) (by exact rfl) (yieldsIf_load_mid (by rfl) _ _ rfl _ _ rfl _ _ (fun wq hS => (fun j u hj => by rw [Nat.zero_add]; exact VA.cell hS j hj)) underlying36 rfl cw) ?_
 try simp only [nrm]
 refine tL 7 12 (.pointer (some ⟨w.heap.size, 6, none⟩)) ?_ ?_
 ·intro wq hS
  go_simp
 try simp only [nrm]
 refine tL 8 13 (.int .i64 a.held) ?_ ?_
 ·intro wq hS
  have c := VA.cell hS 6 (v := .int .i64 a.held) rfl
  go_simp
 try simp only [nrm]
 clear hh_
 refine rdy 4 (fun K hK => ?_)
 go_simp
 refine Calls.mono (iz wz B F M HM_z.out a) ?_
 rintro e w1 ⟨⟨v, rfl, o1⟩, b1⟩
 have HM_1 := hI_ (HM_z.out.step b1)
 have HX_1 := hI_ (HX_z.out.step b1)
 have BB_1 := hI_ (BB_z.out.trans (b1.mono BB_z.out.size))
 clear o1 b1
 go_wp2_with fail
 refine hK.out _ _ (HX_1.out) (fun hh_ => ?_)
 try simp only [nrm]
 clear hK K
 refine tL 5 10 (.int .i64 L) ?_ ?_
 ·intro wq hS
  have c := qi (ver M a.prod) v wq
  rw [← HL.out] at c
  go_simp
 try simp only [nrm]
 refine tL 6 11 (.int .i64 (a.bal + L)) ?_ ?_
 ·intro wq hS
  go_simp
  rw [IntKind.wrap_i64]
  omega
 try simp only [nrm]
 refine tL 9 14 (.int .i64 (a.bal + L - a.held)) ?_ ?_
 ·intro wq hS
  go_simp
  rw [IntKind.wrap_i64]
  omega
 try simp only [nrm]
 refine tL 10 4 (.int .i64 (a.bal + L - a.held)) ?_ ?_
 ·intro wq hS
  go_simp
 try simp only [nrm]
 refine dN ?_
 clear hh_
 go_wp2_with fail
 go_ret
 exact ⟨rfl, BB_1.out⟩
def Fo (w : World) (i : Nat) : Prop := ∃ cs T fr, w.heap[i]? = some (Obj.cells cs T fr) ∧ T ≠ 100 ∧ T ≠ 85 ∧ T ≠ 81 ∧ T ≠ 144 ∧ T ≠ 154 ∧ T ≠ 208 ∧ T ≠ 102
theorem Fo.ne {w : World} {i p : Nat} {cs : Array Value} {T : TypeId} {fr : Nat × Nat} (h : Fo w i) (e : w.heap[p]? = some (Obj.cells cs T fr)) (hT : T = 100 ∨ T = 85 ∨ T = 81 ∨ T = 144 ∨ T = 154 ∨ T = 208 ∨ T = 102) : p ≠ i := by
 rintro rfl
 obtain ⟨ds, U, fr', e', h1, h2, h3, h4, h5, h6, h7⟩ := h
 have := e.symm.trans e'
 simp only [Option.some.injEq, Obj.cells.injEq] at this
 rw [this.2.1] at hT
 rcases hT with h | h | h | h | h | h | h
 ·exact h1 h
 ·exact h2 h
 ·exact h3 h
 ·exact h4 h
 ·exact h5 h
 ·exact h6 h
 ·exact h7 h
theorem Fo.neM {w : World} {i p : Nat} (h : Fo w i) (e : ∃ es c, w.heap[p]? = some (Obj.map es c)) : p ≠ i := by
 rintro rfl
 obtain ⟨ds, U, fr', e', _⟩ := h
 obtain ⟨es, c, e⟩ := e
 have := e.symm.trans e'
 cases this
theorem Fo.nc {w : World} {i bm : Nat} (h : Fo w i) : NC w bm i := by
 obtain ⟨ds, U, fr', e', h1, h2, h3, h4, h5, h6, h7⟩ := h
 exact Or.inl ⟨_, _, _, e', h5, h6, h7⟩
theorem bO {w : World} {m n : Nat} {T : Int → Int → Bool} {b : Int → Int → Int} (h : AMap w m n T b) : ∃ es c, w.heap[m]? = some (Obj.map es c) := by
 obtain ⟨f, ⟨D, ⟨es, clock, hb, _⟩, _⟩, _⟩ := h.ex
 exact ⟨es, clock, hb⟩
theorem MD.but {X : Nat → Prop} {w w' : World} {B : Nat} {F : FB} {M : PM} (h : MD w B F M) (k : But X w w') (hX : ∀ i, X i → Fo w i) : MD w' B F M := by
 obtain ⟨S, hC⟩ := h.cat
 obtain ⟨sv, hV⟩ := h.cbm
 have nc : ∀ {p : Nat} {cs : List Value} {T : TypeId}, VA w p cs T → (T = 100 ∨ T = 85 ∨ T = 81 ∨ T = 144 ∨ T = 154 ∨ T = 208 ∨ T = 102) → ¬ X p := fun v hT hx => (hX _ hx).ne v.blk hT rfl
 have nm : ∀ {p : Nat}, (∃ es c, w.heap[p]? = some (Obj.map es c)) → ¬ X p := fun e hx => (hX _ hx).neM e rfl
 refine ⟨h.va.but k (nc h.va (Or.inl rfl)), ⟨S, hC.butM hV k (fun i hi => (hX i hi).nc)⟩, ⟨sv, hV.but k (nc hV (by simp))⟩, h.led.but k (nc h.led.va (by simp)) (nm (bO h.led.map)), h.rts.but k (nm h.rts.isMap), h.kys.but k (nm h.kys.isMap), h.row.but k (fun g hg hx => ?_), h.len, fun i a x h1 h2 => ⟨(h.acs i a x h1 h2).1.but k (nc (h.acs i a x h1 h2).1 (by simp)), (h.acs i a x h1 h2).2.but k (nm (h.acs i a x h1 h2).2.isMap)⟩, h.low, h.mps, h.abs, h.wf⟩
 obtain ⟨cs, e⟩ := h.row.blkT hg
 exact (hX g hx).ne e (Or.inr (Or.inr (Or.inl rfl))) rfl
def RO (w : World) (rp pm : Nat) (l : Int) : Prop := VA w rp [.pointer (some ⟨pm, 0, none⟩), .int .i64 l] 148
theorem RO.fo {w : World} {rp pm : Nat} {l : Int} (h : RO w rp pm l) : Fo w rp := ⟨_, _, _, VA.blk h, by decide, by decide, by decide, by decide, by decide, by decide, by decide⟩
theorem RO.step {w w' : World} {rp pm : Nat} {l : Int} (h : RO w rp pm l) (k : Below w.heap.size w w') : RO w' rp pm l := VA.step h k
theorem MD.ro {w w' : World} {B : Nat} {F : FB} {M : PM} {rp pm : Nat} {l : Int} (h : MD w B F M) (r : RO w rp pm l) (k : But (fun i => i = rp) w w') : MD w' B F M := h.but k (fun i hi => by rw [hi]; exact r.fo)
def wth (l e : Int) : Int := if e ≠ 0 ∧ (l = 0 ∨ e < l) then e else l
def whn (l : Int) (b : Bool) (e : Int) : Int := if b then wth l e else l
theorem pb (l e : Int) : whn l false e = l := rfl
theorem s7 (l e : Int) : whn l true e = wth l e := rfl
theorem eO (w : World) (rp pm : Nat) (l e : Int) (h : RO w rp pm l) :
  Calls prog 109 #[.pointer (some ⟨rp, 0, none⟩), .int .i64 e] w fun r w' => r = .returned (.tuple #[]) ∧ RO w' rp pm (wth l e) ∧ But (fun i => i = rp) w w' := by
 have c1 := VA.cell h 1 (v := .int .i64 l) rfl
 have f1 := VA.free h 1
 have HS : Hid (RO (w.setCell ⟨rp, 1, none⟩ (.int .i64 e)) rp pm e) := VA.set h 1 (.int .i64 e)
 have HU : Hid (But (fun i => i = rp) w (w.setCell ⟨rp, 1, none⟩ (.int .i64 e))) := (au w rp 1 _).but
 have HR : Hid (RO w rp pm l) := h
 clear h
 unfold wth
 by_cases h0 : e = 0
 ·subst h0
  rw [if_neg (by simp)]
  go_enter func109, ntmps109
  go_wp2_with fail
  refine bodyPost_end (v := .tuple #[]) (by simp [results, results109, go_sem]) rfl ?_
  exact ⟨rfl, HR.out, But.refl _ _⟩
 have e1 : (e != 0) = true := by simpa using h0
 by_cases h1 : l = 0
 ·subst h1
  rw [if_pos ⟨h0, Or.inl rfl⟩]
  clear h0
  go_enter func109, ntmps109
  go_wp2_with fail
  refine bodyPost_end (v := .tuple #[]) (by simp [results, results109, go_sem]) rfl ?_
  exact ⟨rfl, HS.out, HU.out⟩
 have e2 : (l == 0) = false := by simpa using h1
 by_cases h2 : e < l
 ·rw [if_pos ⟨h0, Or.inr h2⟩]
  clear h0 h1
  go_enter func109, ntmps109
  go_wp2_with fail
  refine bodyPost_end (v := .tuple #[]) (by simp [results, results109, go_sem]) rfl ?_
  exact ⟨rfl, HS.out, HU.out⟩
 ·rw [if_neg (fun e => by rcases e.2 with e | e; exact h1 e; exact h2 e)]
  clear h0 h1
  go_enter func109, ntmps109
  go_wp2_with fail
  refine bodyPost_end (v := .tuple #[]) (by simp [results, results109, go_sem]) rfl ?_
  exact ⟨rfl, HR.out, But.refl _ _⟩
theorem ak (w : World) (rp pm : Nat) (l e : Int) (b : Bool) (h : RO w rp pm l) :
  Calls prog 155 #[.pointer (some ⟨rp, 0, none⟩), .bool b, .int .i64 e] w fun r w' => r = .returned (.tuple #[]) ∧ RO w' rp pm (whn l b e) ∧ But (fun i => i = rp) w w' := by
 have HR : Hid (RO w rp pm l) := h
 clear h
 cases b with
 | false =>
  rw [pb]
  go_enter func155, ntmps155
  go_wp2_with fail
  refine bodyPost_end (v := .tuple #[]) (by simp [results, results155, go_sem]) rfl ?_
  exact ⟨rfl, HR.out, But.refl _ _⟩
 | true =>
  rw [s7]
  go_enter func155, ntmps155
  go_wp2_with fail
  refine (eO w rp pm l e HR.out).mono ?_
  rintro r w1 ⟨rfl, h1, h2⟩
  have H1 : Hid (RO w1 rp pm (wth l e)) := h1
  have H2 : Hid (But (fun i => i = rp) w w1) := h2
  clear h1 h2
  go_wp2_with fail
  refine bodyPost_end (v := .tuple #[]) (by simp [results, results155, go_sem]) rfl ?_
  exact ⟨rfl, H1.out, H2.out⟩
def beyond (n g : Int) : Bool := decide (n < 1 ∨ g < n)
theorem bK (w : World) (rp pm : Nat) (l n g : Int) (h : RO w rp pm l) :
  Calls prog 154 #[.pointer (some ⟨rp, 0, none⟩), .int .i64 n, .int .i64 g] w fun r w' => r = .returned (.tuple #[]) ∧ RO w' rp pm (whn l (beyond n g) 1) ∧ But (fun i => i = rp) w w' := by
 have HR : Hid (RO w rp pm l) := h
 clear h
 unfold beyond
 by_cases h1 : n < 1
 ·rw [decide_eq_true (Or.inl h1)]
  go_enter func154, ntmps154
  go_wp2_with fail
  refine (ak w rp pm l 1 _ HR.out).mono ?_
  rintro r w1 ⟨rfl, h1, h2⟩
  have H1 : Hid (RO _ _ _ _) := h1
  have H2 : Hid (But _ _ _) := h2
  clear h1 h2
  go_wp2_with fail
  refine bodyPost_end (v := .tuple #[]) (by simp [results, results154, go_sem]) rfl ?_
  exact ⟨rfl, H1.out, H2.out⟩
 ·by_cases h2 : g < n
  ·rw [decide_eq_true (Or.inr h2)]
   go_enter func154, ntmps154
   go_wp2_with fail
   refine (ak w rp pm l 1 _ HR.out).mono ?_
   rintro r w1 ⟨rfl, h1, h2⟩
   have H1 : Hid (RO _ _ _ _) := h1
   have H2 : Hid (But _ _ _) := h2
   clear h1 h2
   go_wp2_with fail
   refine bodyPost_end (v := .tuple #[]) (by simp [results, results154, go_sem]) rfl ?_
   exact ⟨rfl, H1.out, H2.out⟩
  ·rw [decide_eq_false (fun e => by rcases e with e | e; exact h1 e; exact h2 e)]
   go_enter func154, ntmps154
   go_wp2_with fail
   refine (ak w rp pm l 1 _ HR.out).mono ?_
   rintro r w1 ⟨rfl, h1, h2⟩
   have H1 : Hid (RO _ _ _ _) := h1
   have H2 : Hid (But _ _ _) := h2
   clear h1 h2
   go_wp2_with fail
   refine bodyPost_end (v := .tuple #[]) (by simp [results, results154, go_sem]) rfl ?_
   exact ⟨rfl, H1.out, H2.out⟩
theorem bJ (w : World) (rp pm : Nat) (l n : Int) (h : RO w rp pm l) :
  Calls prog 114 #[.pointer (some ⟨rp, 0, none⟩), .int .i64 n] w fun r w' => r = .returned (.tuple #[]) ∧ RO w' rp pm (whn l (beyond n 10000000000000) 1) ∧ But (fun i => i = rp) w w' := by
 have HR : Hid (RO w rp pm l) := h
 clear h
 go_enter func114, ntmps114
 go_wp2_with fail
 refine (bK w rp pm l n _ HR.out).mono ?_
 rintro r w1 ⟨rfl, h1, h2⟩
 have H1 : Hid (RO _ _ _ _) := h1
 have H2 : Hid (But _ _ _) := h2
 clear h1 h2
 go_wp2_with fail
 refine bodyPost_end (v := .tuple #[]) (by simp [results, results114, go_sem]) rfl ?_
 exact ⟨rfl, H1.out, H2.out⟩
end Go.Proofs.YtjkiplndbcmmbaaGreatDoor
namespace Go.Proofs.YtjkiplndbcmmbaaGreatDoor
open Go.RowKit Go.Maps
theorem kP {α : Type} {l : List α} (h : l.Nodup) {i j : Nat} {a b : α} (ha : l[i]? = some a) (hb : l[j]? = some b) (hij : i ≠ j) : a ≠ b := by
 rintro rfl
 obtain ⟨l1, e1⟩ := List.getElem?_eq_some_iff.1 ha
 obtain ⟨l2, e2⟩ := List.getElem?_eq_some_iff.1 hb
 rcases Nat.lt_or_gt_of_ne hij with hlt | hlt
 ·exact List.pairwise_iff_getElem.1 h i j l1 l2 hlt (e1.trans e2.symm)
 ·exact List.pairwise_iff_getElem.1 h j i l2 l1 hlt (e2.trans e1.symm)
theorem MD.maps_ne {w : World} {B : Nat} {F : FB} {M : PM} (h : MD w B F M) {i : Nat} {x : Nat × Nat} (hx : F.ab[i]? = some x) : F.bm ≠ x.2 ∧ F.ml ≠ x.2 ∧ F.rm ≠ x.2 ∧ F.km ≠ x.2 := by
 have hm : x.2 ∈ F.ab.map (·.2) := List.mem_map.2 ⟨x, List.mem_of_getElem? hx, rfl⟩
 have h1 := h.mps
 unfold FB.maps at h1
 simp only [List.nodup_cons, List.mem_cons, not_or] at h1
 refine ⟨fun e => h1.1.2.2.2 (e ▸ hm), fun e => h1.2.1.2.2 (e ▸ hm), fun e => h1.2.2.1.2 (e ▸ hm), fun e => h1.2.2.2.1 (e ▸ hm)⟩
theorem mQ {al : List PA} {i : Nat} {a a' : PA} (ha : al[i]? = some a) (hid : a'.id = a.id) : (al.set i a').map (·.id) = al.map (·.id) := by
 refine List.ext_getElem? (fun j => ?_)
 rw [List.getElem?_map, List.getElem?_map, List.getElem?_set]
 split
 ·rename_i e
  subst e
  split
  ·rw [ha]
   simp [hid]
  ·rename_i hlt
   rw [List.getElem?_eq_none (by omega)]
 ·rfl
theorem MD.setA {w w' : World} {B : Nat} {F : FB} {M : PM} (h : MD w B F M) {i : Nat} {a a' : PA} {x : Nat × Nat} (hi : IsA F M i a x) (k : But (fun j => j = x.1 ∨ j = x.2) w w') (V : VA w' x.1 (a'.cells x.2) 85) (A : AM KI encI w' x.2 a'.hs) (hwf : a'.wf) (hid : a'.id = a.id) : MD w' B F { M with al := M.al.set i a' } := by
 obtain ⟨S, hC⟩ := h.cat
 obtain ⟨sv, hV⟩ := h.cbm
 have W := (h.acs i a x hi.a hi.x).1
 have Am := (h.acs i a x hi.a hi.x).2
 obtain ⟨n1, n2, n3, n4⟩ := h.maps_ne hi.x
 have nv : ∀ {p : Nat} {cs : List Value} {T : TypeId}, VA w p cs T → T ≠ 85 → ¬ (p = x.1 ∨ p = x.2) := fun v hT e => by
  rcases e with e | e
  ·exact v.ne W hT e
  ·exact v.neM Am.isMap e
 have nm : ∀ {p : Nat}, (∃ es c, w.heap[p]? = some (Obj.map es c)) → p ≠ x.2 → ¬ (p = x.1 ∨ p = x.2) := fun hm hne e => by
  rcases e with e | e
  ·exact W.neM hm e.symm
  ·exact hne e
 refine ⟨h.va.but k (nv h.va (by decide)), ⟨S, hC.butM hV k (fun j hj => ?_)⟩, ⟨sv, hV.but k (nv hV (by decide))⟩, h.led.but k (nv h.led.va (by decide)) (nm (bO h.led.map) n2), h.rts.but k (nm h.rts.isMap n3), h.kys.but k (nm h.kys.isMap n4), h.row.but k (fun g hg hx => ?_), by rw [List.length_set]; exact h.len, fun j b y hb hy => ?_, h.low, h.mps, h.abs, ?_⟩
 ·rcases hj with rfl | rfl
  ·exact NC.cells W (by decide) (by decide) (by decide)
  ·exact NC.map Am.isMap (fun e => n1 e.symm)
 ·obtain ⟨cs, e⟩ := h.row.blkT hg
  rcases hx with rfl | rfl
  ·have := e.symm.trans W.blk
   simp only [Option.some.injEq, Obj.cells.injEq] at this
   exact absurd this.2.1 (by decide)
  ·obtain ⟨es, c, e2⟩ := Am.isMap
   have := e.symm.trans e2
   cases this
 ·rw [List.getElem?_set] at hb
  split at hb
  ·rename_i e
   subst e
   split at hb
   ·cases hb
    have : y = x := by have := hy.symm.trans hi.x; injection this
    subst this
    exact ⟨V, A⟩
   ·cases hb
  ·rename_i hij
   have hb' := h.acs j b y hb hy
   have d1 : y.1 ≠ x.1 := kP h.abs (by rw [List.getElem?_map, hy]; rfl) (by rw [List.getElem?_map, hi.x]; rfl) (fun e => hij e.symm)
   have hm2 : (F.ab.map (·.2)).Nodup := by
    have := h.mps
    unfold FB.maps at this
    simp only [List.nodup_cons] at this
    exact this.2.2.2.2
   have d2 : y.2 ≠ x.2 := kP hm2 (by rw [List.getElem?_map, hy]; rfl) (by rw [List.getElem?_map, hi.x]; rfl) (fun e => hij e.symm)
   refine ⟨hb'.1.but k (fun e => ?_), hb'.2.but k (nm hb'.2.isMap d2)⟩
   rcases e with e | e
   ·exact d1 e
   ·exact hb'.1.neM Am.isMap e
 ·have hw := h.wf
  refine ⟨hw.day, fun b hb => ?_, ?_, by rw [List.length_set]; exact hw.len, hw.rats, hw.seq, hw.run, hw.adds⟩
  ·rcases List.mem_or_eq_of_mem_set hb with hb | hb
   ·exact hw.acs b hb
   ·rw [hb]; exact hwf
  ·have h1 : (M.al.map (·.id)).Pairwise (· < ·) := List.pairwise_map.2 hw.sort
   rw [← mQ hi.a hid] at h1
   exact List.pairwise_map.1 h1
theorem MD.setA1 {w w' : World} {B : Nat} {F : FB} {M : PM} (h : MD w B F M) {i : Nat} {a a' : PA} {x : Nat × Nat} (hi : IsA F M i a x) (k : Upd x.1 w w') (V : VA w' x.1 (a'.cells x.2) 85) (hhs : a'.hs = a.hs) (hwf : a'.wf) (hid : a'.id = a.id) : MD w' B F { M with al := M.al.set i a' } := by
 have W := (h.acs i a x hi.a hi.x).1
 have Am := (h.acs i a x hi.a hi.x).2
 exact h.setA hi (k.but.mono (fun j hj => Or.inl hj)) V (by rw [hhs]; exact Am.but k.but (fun e => W.neM Am.isMap e.symm)) hwf hid
theorem MD.setL {w w' : World} {B : Nat} {F : FB} {M : PM} (h : MD w B F M) {b : Int → Int → Int} {n : Int} (k : But (fun j => j = F.pl ∨ j = F.ml) w w') (L : Led w' F.pl F.ml b n) : MD w' B F { M with b := b, n := n } := by
 obtain ⟨S, hC⟩ := h.cat
 obtain ⟨sv, hV⟩ := h.cbm
 have W := h.led.va
 have Am := bO h.led.map
 have h1 := h.mps
 unfold FB.maps at h1
 simp only [List.nodup_cons, List.mem_cons, not_or] at h1
 have nv : ∀ {p : Nat} {cs : List Value} {T : TypeId}, VA w p cs T → T ≠ 144 → ¬ (p = F.pl ∨ p = F.ml) := fun v hT e => by
  rcases e with e | e
  ·exact v.ne W hT e
  ·exact v.neM Am e
 have nm : ∀ {p : Nat}, (∃ es c, w.heap[p]? = some (Obj.map es c)) → p ≠ F.ml → ¬ (p = F.pl ∨ p = F.ml) := fun hm hne e => by
  rcases e with e | e
  ·exact W.neM hm e.symm
  ·exact hne e
 refine ⟨h.va.but k (nv h.va (by decide)), ⟨S, hC.butM hV k (fun j hj => ?_)⟩, ⟨sv, hV.but k (nv hV (by decide))⟩, L, h.rts.but k (nm h.rts.isMap (fun e => h1.2.1.1 e.symm)), h.kys.but k (nm h.kys.isMap (fun e => h1.2.1.2.1 e.symm)), h.row.but k (fun g hg hx => ?_), h.len, fun j a y ha hy => ?_, h.low, h.mps, h.abs, ⟨h.wf.day, h.wf.acs, h.wf.sort, h.wf.len, h.wf.rats, h.wf.seq, h.wf.run, h.wf.adds⟩⟩
 ·rcases hj with rfl | rfl
  ·exact NC.cells W (by decide) (by decide) (by decide)
  ·exact NC.map Am (fun e => h1.1.1 e.symm)
 ·obtain ⟨cs, e⟩ := h.row.blkT hg
  rcases hx with rfl | rfl
  ·have := e.symm.trans W.blk
   simp only [Option.some.injEq, Obj.cells.injEq] at this
   exact absurd this.2.1 (by decide)
  ·obtain ⟨es, c, e2⟩ := Am
   have := e.symm.trans e2
   cases this
 ·have hb' := h.acs j a y ha hy
  refine ⟨hb'.1.but k (nv hb'.1 (by decide)), hb'.2.but k (nm hb'.2.isMap (fun e => h1.2.1.2.2 (e ▸ List.mem_map.2 ⟨y, List.mem_of_getElem? hy, rfl⟩)))⟩
theorem MD.setM {w w' : World} {B : Nat} {F : FB} {M M' : PM} (h : MD w B F M) (k : Upd F.pm w w') (V : VA w' F.pm (mcells F M') 100) (e : M'.vs = M.vs ∧ M'.al = M.al ∧ M'.rates = M.rates ∧ M'.b = M.b ∧ M'.n = M.n ∧ M'.keys = M.keys) (hw : M'.wf) : MD w' B F M' := by
 obtain ⟨S, hC⟩ := h.cat
 obtain ⟨sv, hV⟩ := h.cbm
 obtain ⟨e1, e2, e3, e4, e5, e6⟩ := e
 have W := h.va
 have nv : ∀ {p : Nat} {cs : List Value} {T : TypeId}, VA w p cs T → T ≠ 100 → ¬ (p = F.pm) := fun v hT e => v.ne W hT e
 have nm : ∀ {p : Nat}, (∃ es c, w.heap[p]? = some (Obj.map es c)) → ¬ (p = F.pm) := fun hm e => W.neM hm e.symm
 refine ⟨V, ⟨S, by rw [e1]; exact hC.butM hV k.but (fun j hj => by rw [hj]; exact NC.cells W (by decide) (by decide) (by decide))⟩, ⟨sv, hV.upd k (nv hV (by decide))⟩, by rw [e4, e5]; exact h.led.but k.but (nv h.led.va (by decide)) (nm (bO h.led.map)), by rw [e3]; exact h.rts.but k.but (nm h.rts.isMap), by rw [e6]; exact h.kys.but k.but (nm h.kys.isMap), h.row.but k.but (fun g hg hx => ?_), by rw [e2]; exact h.len, fun j a y ha hy => ?_, h.low, h.mps, h.abs, hw⟩
 ·obtain ⟨cs, e⟩ := h.row.blkT hg
  subst hx
  have := e.symm.trans W.blk
  simp only [Option.some.injEq, Obj.cells.injEq] at this
  exact absurd this.2.1 (by decide)
 ·rw [e2] at ha
  have hb' := h.acs j a y ha hy
  exact ⟨hb'.1.upd k (nv hb'.1 (by decide)), hb'.2.but k.but (nm hb'.2.isMap)⟩
end Go.Proofs.YtjkiplndbcmmbaaGreatDoor
namespace Go.Proofs.YtjkiplndbcmmbaaGreatDoor
open Tryz
open Go.RowKit Go.Maps
abbrev AR := Option (PA × Nat × Nat)
def pvR : AR → Value
 | none => .pointer none
 | some x => .pointer (some ⟨x.2.1, 0, none⟩)
def RF (w : World) : AR → Prop
 | none => True
 | some x => VA w x.2.1 (x.1.cells x.2.2) 85 ∧ AM KI encI w x.2.2 x.1.hs ∧ x.1.wf
theorem RF.step {w w' : World} {R : AR} (h : RF w R) (k : Below w.heap.size w w') : RF w' R := by
 cases R with
 | none => trivial
 | some x => exact ⟨h.1.step k, h.2.1.step k, h.2.2⟩
theorem RF.ro {w w' : World} {R : AR} {rp pm : Nat} {l : Int} (h : RF w R) (r : RO w rp pm l) (k : But (fun i => i = rp) w w') : RF w' R := by
 cases R with
 | none => trivial
 | some x => exact ⟨h.1.but k (h.1.ne r (by decide)), h.2.1.but k (fun e => VA.neM r h.2.1.isMap e.symm), h.2.2⟩
def emptyF : AR → Bool
 | none => false
 | some x => decide (x.1.bal ≠ 0 ∨ x.1.held ≠ 0)
def roomF (R : AR) (n : Int) : Bool := match R with
 | none => false
 | some x => decide (10000000000000 < wrap64 (x.1.bal + n))
def fundsF (M : PM) (R : AR) (n : Int) : Bool := match R with
 | none => false
 | some x => decide (spend M x.1 < n)
theorem qh (w : World) (rp pm : Nat) (l : Int) (R : AR) (h : RO w rp pm l) (hR : RF w R) :
  Calls prog 112 #[.pointer (some ⟨rp, 0, none⟩), pvR R] w fun r w' => r = .returned (.tuple #[]) ∧ RO w' rp pm (whn l (emptyF R) 15) ∧ But (fun i => i = rp) w w' := by
 have HR : Hid (RO w rp pm l) := h
 cases R with
 | none =>
  unfold emptyF pvR
  clear h hR
  go_enter func112, ntmps112
  go_wp2_with fail
  refine (ak w rp pm l 15 _ HR.out).mono ?_
  rintro r w1 ⟨rfl, h1, h2⟩
  have H1 : Hid (RO _ _ _ _) := h1
  have H2 : Hid (But _ _ _) := h2
  clear h1 h2
  go_wp2_with fail
  refine bodyPost_end (v := .tuple #[]) (by simp [results, results112, go_sem]) rfl ?_
  exact ⟨rfl, H1.out, H2.out⟩
 | some x =>
  obtain ⟨a, q, hb⟩ := x
  have c5 := hR.1.cell 5 (v := .int .i64 a.bal) rfl
  have c6 := hR.1.cell 6 (v := .int .i64 a.held) rfl
  clear h hR
  unfold emptyF pvR
  dsimp only
  by_cases h0 : a.bal = 0
  ·by_cases h1 : a.held = 0
   ·rw [decide_eq_false (by simp [h0, h1])]
    have e0 : (a.bal != 0) = false := by simpa using h0
    have e1 : (a.held != 0) = false := by simpa using h1
    clear h0 h1
    go_enter func112, ntmps112
    go_wp2_with fail
    refine (ak w rp pm l 15 _ HR.out).mono ?_
    rintro r w1 ⟨rfl, h1, h2⟩
    have H1 : Hid (RO _ _ _ _) := h1
    have H2 : Hid (But _ _ _) := h2
    clear h1 h2
    go_wp2_with fail
    refine bodyPost_end (v := .tuple #[]) (by simp [results, results112, go_sem]) rfl ?_
    exact ⟨rfl, H1.out, H2.out⟩
   ·rw [decide_eq_true (by simp [h1])]
    have e0 : (a.bal != 0) = false := by simpa using h0
    have e1 : (a.held != 0) = true := by simpa using h1
    clear h0 h1
    go_enter func112, ntmps112
    go_wp2_with fail
    refine (ak w rp pm l 15 _ HR.out).mono ?_
    rintro r w1 ⟨rfl, h1, h2⟩
    have H1 : Hid (RO _ _ _ _) := h1
    have H2 : Hid (But _ _ _) := h2
    clear h1 h2
    go_wp2_with fail
    refine bodyPost_end (v := .tuple #[]) (by simp [results, results112, go_sem]) rfl ?_
    exact ⟨rfl, H1.out, H2.out⟩
  ·rw [decide_eq_true (by simp [h0])]
   have e0 : (a.bal != 0) = true := by simpa using h0
   clear h0
   go_enter func112, ntmps112
   go_wp2_with fail
   refine (ak w rp pm l 15 _ HR.out).mono ?_
   rintro r w1 ⟨rfl, h1, h2⟩
   have H1 : Hid (RO _ _ _ _) := h1
   have H2 : Hid (But _ _ _) := h2
   clear h1 h2
   go_wp2_with fail
   refine bodyPost_end (v := .tuple #[]) (by simp [results, results112, go_sem]) rfl ?_
   exact ⟨rfl, H1.out, H2.out⟩
theorem gA (w : World) (rp pm : Nat) (l n : Int) (R : AR) (h : RO w rp pm l) (hR : RF w R) :
  Calls prog 115 #[.pointer (some ⟨rp, 0, none⟩), pvR R, .int .i64 n] w fun r w' => r = .returned (.tuple #[]) ∧ RO w' rp pm (whn l (roomF R n) 4) ∧ But (fun i => i = rp) w w' := by
 have HR : Hid (RO w rp pm l) := h
 cases R with
 | none =>
  unfold roomF pvR
  clear h hR
  go_enter func115, ntmps115
  go_wp2_with fail
  refine (ak w rp pm l 4 _ HR.out).mono ?_
  rintro r w1 ⟨rfl, h1, h2⟩
  have H1 : Hid (RO _ _ _ _) := h1
  have H2 : Hid (But _ _ _) := h2
  clear h1 h2
  go_wp2_with fail
  refine bodyPost_end (v := .tuple #[]) (by simp [results, results115, go_sem]) rfl ?_
  exact ⟨rfl, H1.out, H2.out⟩
 | some x =>
  obtain ⟨a, q, hb⟩ := x
  have c5 := hR.1.cell 5 (v := .int .i64 a.bal) rfl
  clear h hR
  unfold roomF pvR
  dsimp only
  go_enter func115, ntmps115
  go_wp2_with fail
  refine (ak w rp pm l 4 _ HR.out).mono ?_
  rintro r w1 ⟨rfl, h1, h2⟩
  have H1 : Hid (RO _ _ _ _) := h1
  have H2 : Hid (But _ _ _) := h2
  clear h1 h2
  go_wp2_with fail
  refine bodyPost_end (v := .tuple #[]) (by simp [results, results115, go_sem]) rfl ?_
  exact ⟨rfl, H1.out, H2.out⟩
theorem nx {a : PA} {hb j : Nat} {u : Value} (h : a.told[j]? = some u) : (a.cells hb)[j]? = some u := by
 unfold PA.told at h
 unfold PA.cells
 rcases j with _ | _ | _ | _ | _ | _ | _ | _ | j
 all_goals first | exact h | (simp at h)
theorem de (w : World) (B : Nat) (F : FB) (M : PM) (hM : MD w B F M) (rp : Nat) (l n : Int) (R : AR) (h : RO w rp F.pm l) (hR : RF w R) :
  Calls prog 116 #[.pointer (some ⟨rp, 0, none⟩), pvR R, .int .i64 n] w fun r w' => r = .returned (.tuple #[]) ∧ RO w' rp F.pm (whn l (fundsF M R n) 13) ∧ But (fun i => i = rp) w w' := by
 obtain ⟨pm, hpm⟩ : ∃ p, p = F.pm := ⟨_, rfl⟩
 have HF : Hid (F.pm = pm) := hpm.symm
 rw [← hpm] at h ⊢
 have HR_0 : Hid (RO w rp pm l) := h
 have HM_0 := hI_ hM
 have BB_0 := hI_ (Below.refl w.heap.size w)
 cases R with
 | none =>
  unfold fundsF pvR
  clear h hR hM hpm
  go_enter func116, ntmps116
  go_upto_region 0 with fail
  generalize hw0 : w = w0 at HR_0
  obtain rfl := hw0
  refine wp_region_noPanic ?_
  refine wp_region_held_drew (S := fun _ => True) (by kernel_rfl) (trivial) ?_
  intro hh_
  have bz := (Below.refl w.heap.size w).drew
  have HR_z := hI_ (HR_0.out.step bz)
  have BB_z := hI_ (BB_0.out.trans (bz.mono BB_0.out.size))
  generalize w.drew = wz at *
  clear bz
  refine tL 0 6 (.pointer (some ⟨rp, 0, none⟩)) ?_ ?_
  ·intro wq hS
   go_simp
  try simp only [nrm]
  refine tL 1 7 (.pointer none) ?_ ?_
  ·intro wq hS
   go_simp
  try simp only [nrm]
  refine tL 2 8 (.bool false) ?_ ?_
  ·intro wq hS
   go_simp
  try simp only [nrm]
  refine tL 3 9 (.bool false) ?_ ?_
  ·intro wq hS
   go_simp
  try simp only [nrm]
  refine tM 4 10 undef ?_
  try simp only [nrm]
  refine tM 5 11 undef ?_
  try simp only [nrm]
  refine tM 6 12 undef ?_
  try simp only [nrm]
  refine tM 7 13 undef ?_
  try simp only [nrm]
  refine tM 8 14 undef ?_
  try simp only [nrm]
  refine tM 9 15 undef ?_
  try simp only [nrm]
  refine tM 10 16 undef ?_
  try simp only [nrm]
  refine tM 11 17 undef ?_
  try simp only [nrm]
  refine tM 12 18 undef ?_
  try simp only [nrm]
  refine tM 13 19 undef ?_
  try simp only [nrm]
  refine tM 14 20 undef ?_
  try simp only [nrm]
  refine tL 15 21 (.bool false) ?_ ?_
  ·intro wq hS
   go_simp
  try simp only [nrm]
  refine rdy 16 (fun K hK => ?_)
  go_simp
  refine (ak wz rp pm l 13 _ HR_z.out).mono ?_
  rintro r w2 ⟨rfl, h1, h2⟩
  have H1 : Hid (RO _ _ _ _) := h1
  have H2 : Hid (But (fun i => i = rp) w w2) := (ac BB_z.out (fun i => i = rp)).trans h2 (fun i hi hx => hx)
  go_wp2_with fail
  refine hK.out _ _ trivial (fun hh_ => ?_)
  clear hK K h1 h2
  try simp only [nrm]
  refine dN ?_
  clear hh_
  go_wp2_with fail
  refine bodyPost_end (v := .tuple #[]) (by simp [results, results116, go_sem]) rfl ?_
  exact ⟨rfl, H1.out, H2.out⟩
 | some x =>
  obtain ⟨a, q, hb⟩ := x
  have HA_0 : Hid (VA w q (a.cells hb) 85) := hR.1
  have hwf := hR.2.2
  unfold fundsF pvR
  dsimp only
  clear h hR hM hpm
  go_enter func116, ntmps116
  go_upto_region 0 with fail
  refine wp_region_noPanic ?_
  refine wp_region_held_drew (S := fun V => (∃ z : Int, VA V rp [.pointer (some ⟨pm, 0, none⟩), .int .i64 z] 148) ∧ VA V q (a.cells hb) 85) (by kernel_rfl) (⟨⟨_, VA.drew HR_0.out⟩, VA.drew HA_0.out⟩) ?_
  intro hh_
  have bz := (Below.refl w.heap.size w).drew
  have HM_z := hI_ (HM_0.out.step bz)
  have HR_z := hI_ (HR_0.out.step bz)
  have HA_z := hI_ (HA_0.out.step bz)
  have BB_z := hI_ (BB_0.out.trans (bz.mono BB_0.out.size))
  generalize w.drew = wz at *
  clear bz
  refine tL 0 6 (.pointer (some ⟨rp, 0, none⟩)) ?_ ?_
  ·intro wq hS
   go_simp
  try simp only [nrm]
  refine tL 1 7 (.pointer (some ⟨q, 0, none⟩)) ?_ ?_
  ·intro wq hS
   go_simp
  try simp only [nrm]
  refine tL 2 8 (.bool true) ?_ ?_
  ·intro wq hS
   go_simp
  try simp only [nrm]
  refine tL 3 9 (.bool true) ?_ ?_
  ·intro wq hS
   go_simp
  try simp only [nrm]
  refine tL 4 10 (.int .i64 n) ?_ ?_
  ·intro wq hS
   go_simp
  try simp only [nrm]
  refine tL 5 11 (.pointer (some ⟨rp, 0, none⟩)) ?_ ?_
  ·intro wq hS
   go_simp
  try simp only [nrm]
  refine tL 6 12 (.pointer (some ⟨rp, 0, none⟩)) ?_ ?_
  ·intro wq hS
   go_simp
  try simp only [nrm]
  refine tL 7 13 (.pointer (some ⟨rp, 0, none⟩)) ?_ ?_
  ·intro wq hS
   go_simp
  try simp only [nrm]
  refine tL 8 14 (.pointer (some ⟨pm, 0, none⟩)) ?_ ?_
  ·intro wq hS
   obtain ⟨⟨z, hz⟩, _⟩ := hS
   have c := VA.cell hz 0 (v := .pointer (some ⟨pm, 0, none⟩)) rfl
   go_simp
  try simp only [nrm]
  refine tL 9 15 (.pointer (some ⟨q, 0, none⟩)) ?_ ?_
  ·intro wq hS
   go_simp
  try simp only [nrm]
  refine tL 10 16 (.pointer (some ⟨q, 0, none⟩)) ?_ ?_
  ·intro wq hS
   go_simp
  try simp only [nrm]
  refine tL 11 17 (.pointer (some ⟨q, 0, none⟩)) ?_ ?_
  ·intro wq hS
   go_simp
  try simp only [nrm]
  refine tK 12 18 (.agg a.told.toArray) (by exact rfl) (yieldsIf_load_mid (by rfl) _ _ rfl _ _ rfl _ _ (fun wq hS => (fun j u hj => by rw [Nat.zero_add]; exact VA.cell hS.2 j (nx hj))) underlying36 rfl cw) ?_
  try simp only [nrm]
  clear hh_
  refine rdy 13 (fun K hK => ?_)
  go_simp
  refine Calls.mono (HF.out ▸ jP wz B F M HM_z.out a hwf) ?_
  rintro e w1 ⟨rfl, b1⟩
  have HM_1 := hI_ (HM_z.out.step b1)
  have HR_1 := hI_ (HR_z.out.step b1)
  have HA_1 := hI_ (HA_z.out.step b1)
  have BB_1 := hI_ (BB_z.out.trans (b1.mono BB_z.out.size))
  clear b1
  go_wp2_with fail
  refine hK.out _ _ (⟨⟨_, HR_1.out⟩, HA_1.out⟩) (fun hh_ => ?_)
  try simp only [nrm]
  clear hK K
  refine tL 14 20 (.bool (decide (spend M a < n))) ?_ ?_
  ·intro wq hS
   go_simp
  try simp only [nrm]
  refine tL 15 21 (.bool (decide (spend M a < n))) ?_ ?_
  ·intro wq hS
   go_simp
  try simp only [nrm]
  refine rdy 16 (fun K hK => ?_)
  go_simp
  refine (ak w1 rp pm l 13 _ HR_1.out).mono ?_
  rintro r w2 ⟨rfl, h1, h2⟩
  have H1 : Hid (RO _ _ _ _) := h1
  have H2 : Hid (But (fun i => i = rp) w w2) := (ac BB_1.out (fun i => i = rp)).trans h2 (fun i hi hx => hx)
  go_wp2_with fail
  refine hK.out _ _ ⟨⟨_, H1.out⟩, HA_1.out.but h2 (HA_1.out.ne HR_1.out (by decide))⟩ (fun hh_ => ?_)
  clear hK K h1 h2
  try simp only [nrm]
  refine dN ?_
  clear hh_
  go_wp2_with fail
  refine bodyPost_end (v := .tuple #[]) (by simp [results, results116, go_sem]) rfl ?_
  exact ⟨rfl, H1.out, H2.out⟩
def acctO (M : PM) (id : Int) : Option PA := M.al.find? fun a => decide (a.id = id)
def emptyO : Option PA → Bool
 | none => false
 | some a => decide (a.bal ≠ 0 ∨ a.held ≠ 0)
def roomO (o : Option PA) (n : Int) : Bool := match o with
 | none => false
 | some a => decide (10000000000000 < wrap64 (a.bal + n))
def fundsO (M : PM) (o : Option PA) (n : Int) : Bool := match o with
 | none => false
 | some a => decide (spend M a < n)
def curO : Option PA → Option PA → Bool
 | some a, some b => a.cur != b.cur
 | _, _ => false
theorem qg (R : AR) : emptyF R = emptyO (R.map (·.1)) := by cases R <;> rfl
theorem fE (R : AR) (n : Int) : roomF R n = roomO (R.map (·.1)) n := by cases R <;> rfl
theorem bQ (M : PM) (R : AR) (n : Int) : fundsF M R n = fundsO M (R.map (·.1)) n := by cases R <;> rfl
theorem fT (w : World) (rp pm : Nat) (l : Int) (R R2 : AR) (h : RO w rp pm l) (hR : RF w R) (hR2 : RF w R2) :
  Calls prog 157 #[.pointer (some ⟨rp, 0, none⟩), pvR R, pvR R2] w fun r w' => r = .returned (.tuple #[]) ∧ RO w' rp pm (whn l (curO (R.map (·.1)) (R2.map (·.1))) 10) ∧ But (fun i => i = rp) w w' := by
 have HR : Hid (RO w rp pm l) := h
 clear h
 cases R with
 | none =>
  rw [show curO (Option.map (·.1) (none : AR)) (R2.map (·.1)) = false from rfl]
  obtain ⟨pv2, hpv⟩ : ∃ v, v = pvR R2 := ⟨_, rfl⟩
  rw [← hpv]
  unfold pvR
  clear hR hR2 hpv
  go_enter func157, ntmps157
  go_upto_region 0 with fail
  have HR_0 : Hid (RO w rp pm l) := HR.out
  have BB_0 := hI_ (Below.refl w.heap.size w)
  refine wp_region_noPanic ?_
  refine wp_region_held_drew (S := fun _ => True) (by kernel_rfl) (trivial) ?_
  intro hh_
  have bz := (Below.refl w.heap.size w).drew
  have HR_z := hI_ (HR_0.out.step bz)
  have BB_z := hI_ (BB_0.out.trans (bz.mono BB_0.out.size))
  generalize w.drew = wz at *
  clear bz
  refine tL 0 6 (.pointer (some ⟨rp, 0, none⟩)) ?_ ?_
  ·intro wq hS
   go_simp
  try simp only [nrm]
  refine tL 1 7 (.pointer none) ?_ ?_
  ·intro wq hS
   go_simp
  try simp only [nrm]
  refine tL 2 8 (.bool false) ?_ ?_
  ·intro wq hS
   go_simp
  try simp only [nrm]
  refine tL 3 9 (.bool false) ?_ ?_
  ·intro wq hS
   go_simp
  try simp only [nrm]
  refine tM 4 10 undef ?_
  try simp only [nrm]
  refine tM 5 11 undef ?_
  try simp only [nrm]
  refine tL 6 12 (.bool false) ?_ ?_
  ·intro wq hS
   go_simp
  try simp only [nrm]
  refine tL 7 13 (.bool false) ?_ ?_
  ·intro wq hS
   go_simp
  try simp only [nrm]
  refine tM 8 14 undef ?_
  try simp only [nrm]
  refine tM 9 15 undef ?_
  try simp only [nrm]
  refine tM 10 16 undef ?_
  try simp only [nrm]
  refine tM 11 17 undef ?_
  try simp only [nrm]
  refine tM 12 18 undef ?_
  try simp only [nrm]
  refine tM 13 19 undef ?_
  try simp only [nrm]
  refine tM 14 20 undef ?_
  try simp only [nrm]
  refine tM 15 21 undef ?_
  try simp only [nrm]
  refine tM 16 22 undef ?_
  try simp only [nrm]
  refine tM 17 23 undef ?_
  try simp only [nrm]
  refine tM 18 24 undef ?_
  try simp only [nrm]
  refine tL 19 25 (.bool false) ?_ ?_
  ·intro wq hS
   go_simp
  try simp only [nrm]
  refine rdy 20 (fun K hK => ?_)
  go_simp
  refine (ak wz rp pm l 10 _ HR_z.out).mono ?_
  rintro r w2 ⟨rfl, h1, h2⟩
  have H1 : Hid (RO _ _ _ _) := h1
  have H2 : Hid (But (fun i => i = rp) w w2) := (ac BB_z.out (fun i => i = rp)).trans h2 (fun i hi hx => hx)
  go_wp2_with fail
  refine hK.out _ _ trivial (fun hh_ => ?_)
  clear hK K h1 h2
  try simp only [nrm]
  refine dN ?_
  clear hh_
  go_wp2_with fail
  refine bodyPost_end (v := .tuple #[]) (by simp [results, results157, go_sem]) rfl ?_
  exact ⟨rfl, H1.out, H2.out⟩
 | some x =>
  obtain ⟨a, q, hb⟩ := x
  have HA : Hid (VA w q (a.cells hb) 85) := hR.1
  cases R2 with
  | none =>
   rw [show curO (Option.map (·.1) (some (a, q, hb) : AR)) (Option.map (·.1) (none : AR)) = false from rfl]
   unfold pvR
   dsimp only
   clear hR hR2
   go_enter func157, ntmps157
   go_upto_region 0 with fail
   have HR_0 : Hid (RO w rp pm l) := HR.out
   have BB_0 := hI_ (Below.refl w.heap.size w)
   refine wp_region_noPanic ?_
   refine wp_region_held_drew (S := fun _ => True) (by kernel_rfl) (trivial) ?_
   intro hh_
   have bz := (Below.refl w.heap.size w).drew
   have HR_z := hI_ (HR_0.out.step bz)
   have BB_z := hI_ (BB_0.out.trans (bz.mono BB_0.out.size))
   generalize w.drew = wz at *
   clear bz
   refine tL 0 6 (.pointer (some ⟨rp, 0, none⟩)) ?_ ?_
   ·intro wq hS
    go_simp
   try simp only [nrm]
   refine tL 1 7 (.pointer (some ⟨q, 0, none⟩)) ?_ ?_
   ·intro wq hS
    go_simp
   try simp only [nrm]
   refine tL 2 8 (.bool true) ?_ ?_
   ·intro wq hS
    go_simp
   try simp only [nrm]
   refine tL 3 9 (.bool true) ?_ ?_
   ·intro wq hS
    go_simp
   try simp only [nrm]
   refine tL 4 10 (.pointer none) ?_ ?_
   ·intro wq hS
    go_simp
   try simp only [nrm]
   refine tL 5 11 (.bool false) ?_ ?_
   ·intro wq hS
    go_simp
   try simp only [nrm]
   refine tL 6 12 (.bool false) ?_ ?_
   ·intro wq hS
    go_simp
   try simp only [nrm]
   refine tL 7 13 (.bool false) ?_ ?_
   ·intro wq hS
    go_simp
   try simp only [nrm]
   refine tM 8 14 undef ?_
   try simp only [nrm]
   refine tM 9 15 undef ?_
   try simp only [nrm]
   refine tM 10 16 undef ?_
   try simp only [nrm]
   refine tM 11 17 undef ?_
   try simp only [nrm]
   refine tM 12 18 undef ?_
   try simp only [nrm]
   refine tM 13 19 undef ?_
   try simp only [nrm]
   refine tM 14 20 undef ?_
   try simp only [nrm]
   refine tM 15 21 undef ?_
   try simp only [nrm]
   refine tM 16 22 undef ?_
   try simp only [nrm]
   refine tM 17 23 undef ?_
   try simp only [nrm]
   refine tM 18 24 undef ?_
   try simp only [nrm]
   refine tL 19 25 (.bool false) ?_ ?_
   ·intro wq hS
    go_simp
   try simp only [nrm]
   refine rdy 20 (fun K hK => ?_)
   go_simp
   refine (ak wz rp pm l 10 _ HR_z.out).mono ?_
   rintro r w2 ⟨rfl, h1, h2⟩
   have H1 : Hid (RO _ _ _ _) := h1
   have H2 : Hid (But (fun i => i = rp) w w2) := (ac BB_z.out (fun i => i = rp)).trans h2 (fun i hi hx => hx)
   go_wp2_with fail
   refine hK.out _ _ trivial (fun hh_ => ?_)
   clear hK K h1 h2
   try simp only [nrm]
   refine dN ?_
   clear hh_
   go_wp2_with fail
   refine bodyPost_end (v := .tuple #[]) (by simp [results, results157, go_sem]) rfl ?_
   exact ⟨rfl, H1.out, H2.out⟩
  | some y =>
   obtain ⟨a2, q2, hb2⟩ := y
   have HC : Hid (VA w q2 (a2.cells hb2) 85) := hR2.1
   rw [show curO (Option.map (·.1) (some (a, q, hb) : AR)) (Option.map (·.1) (some (a2, q2, hb2) : AR)) = (a.cur != a2.cur) from rfl]
   unfold pvR
   dsimp only
   clear hR hR2
   go_enter func157, ntmps157
   go_upto_region 0 with fail
   have HR_0 : Hid (RO w rp pm l) := HR.out
   have BB_0 := hI_ (Below.refl w.heap.size w)
   have HA_0 := HA
   have HC_0 := HC
   refine wp_region_noPanic ?_
   refine wp_region_held_drew (S := fun V => VA V q (a.cells hb) 85 ∧ VA V q2 (a2.cells hb2) 85) (by kernel_rfl) (⟨VA.drew HA_0.out, VA.drew HC_0.out⟩) ?_
   intro hh_
   have bz := (Below.refl w.heap.size w).drew
   have HR_z := hI_ (HR_0.out.step bz)
   have HA_z := hI_ (HA_0.out.step bz)
   have HC_z := hI_ (HC_0.out.step bz)
   have BB_z := hI_ (BB_0.out.trans (bz.mono BB_0.out.size))
   generalize w.drew = wz at *
   clear bz
   refine tL 0 6 (.pointer (some ⟨rp, 0, none⟩)) ?_ ?_
   ·intro wq hS
    go_simp
   try simp only [nrm]
   refine tL 1 7 (.pointer (some ⟨q, 0, none⟩)) ?_ ?_
   ·intro wq hS
    go_simp
   try simp only [nrm]
   refine tL 2 8 (.bool true) ?_ ?_
   ·intro wq hS
    go_simp
   try simp only [nrm]
   refine tL 3 9 (.bool true) ?_ ?_
   ·intro wq hS
    go_simp
   try simp only [nrm]
   refine tL 4 10 (.pointer (some ⟨q2, 0, none⟩)) ?_ ?_
   ·intro wq hS
    go_simp
   try simp only [nrm]
   refine tL 5 11 (.bool true) ?_ ?_
   ·intro wq hS
    go_simp
   try simp only [nrm]
   refine tL 6 12 (.bool true) ?_ ?_
   ·intro wq hS
    go_simp
   try simp only [nrm]
   refine tL 7 13 (.bool true) ?_ ?_
   ·intro wq hS
    go_simp
   try simp only [nrm]
   refine tL 8 14 (.pointer (some ⟨q, 0, none⟩)) ?_ ?_
   ·intro wq hS
    go_simp
   try simp only [nrm]
   refine tL 9 15 (.pointer (some ⟨q, 0, none⟩)) ?_ ?_
   ·intro wq hS
    go_simp
   try simp only [nrm]
   refine tL 10 16 (.pointer (some ⟨q, 0, none⟩)) ?_ ?_
   ·intro wq hS
    go_simp
   try simp only [nrm]
   refine tL 11 17 (.pointer (some ⟨q, 2, none⟩)) ?_ ?_
   ·intro wq hS
    go_simp
   try simp only [nrm]
   refine tL 12 18 (.int .i64 a.cur) ?_ ?_
   ·intro wq hS
    have c := VA.cell hS.1 2 (v := .int .i64 a.cur) rfl
    go_simp
   try simp only [nrm]
   refine tL 13 19 (.pointer (some ⟨q2, 0, none⟩)) ?_ ?_
   ·intro wq hS
    go_simp
   try simp only [nrm]
   refine tL 14 20 (.pointer (some ⟨q2, 0, none⟩)) ?_ ?_
   ·intro wq hS
    go_simp
   try simp only [nrm]
   refine tL 15 21 (.pointer (some ⟨q2, 0, none⟩)) ?_ ?_
   ·intro wq hS
    go_simp
   try simp only [nrm]
   refine tL 16 22 (.pointer (some ⟨q2, 2, none⟩)) ?_ ?_
   ·intro wq hS
    go_simp
   try simp only [nrm]
   refine tL 17 23 (.int .i64 a2.cur) ?_ ?_
   ·intro wq hS
    have c := VA.cell hS.2 2 (v := .int .i64 a2.cur) rfl
    go_simp
   try simp only [nrm]
   refine tL 18 24 (.bool (a.cur != a2.cur)) ?_ ?_
   ·intro wq hS
    go_simp
   try simp only [nrm]
   refine tL 19 25 (.bool (a.cur != a2.cur)) ?_ ?_
   ·intro wq hS
    go_simp
   try simp only [nrm]
   refine rdy 20 (fun K hK => ?_)
   go_simp
   refine (ak wz rp pm l 10 _ HR_z.out).mono ?_
   rintro r w2 ⟨rfl, h1, h2⟩
   have H1 : Hid (RO _ _ _ _) := h1
   have H2 : Hid (But (fun i => i = rp) w w2) := (ac BB_z.out (fun i => i = rp)).trans h2 (fun i hi hx => hx)
   go_wp2_with fail
   refine hK.out _ _ ⟨HA_z.out.but h2 (HA_z.out.ne HR_z.out (by decide)), HC_z.out.but h2 (HC_z.out.ne HR_z.out (by decide))⟩ (fun hh_ => ?_)
   clear hK K h1 h2
   try simp only [nrm]
   refine dN ?_
   clear hh_
   go_wp2_with fail
   refine bodyPost_end (v := .tuple #[]) (by simp [results, results157, go_sem]) rfl ?_
   exact ⟨rfl, H1.out, H2.out⟩
def namedK (M : PM) (l id kind : Int) : Int := match acctO M id with
 | none => wth l 7
 | some a => whn (whn l (!a.opn) 14) ((kind != 0) && (a.kind != kind)) 11
theorem acctO_none {M : PM} {id : Int} : acctO M id = none ↔ has M.al id = false := by
 unfold acctO has
 rw [List.find?_eq_none, List.any_eq_false]
theorem lH {M : PM} {id : Int} {a : PA} (h : acctO M id = some a) : a ∈ M.al ∧ a.id = id := by
 unfold acctO at h
 exact ⟨List.mem_of_find?_eq_some h, by simpa using List.find?_some h⟩
theorem MD.acct {w : World} {B : Nat} {F : FB} {M : PM} (h : MD w B F M) {id : Int} {a : PA} (ha : acctO M id = some a) : ∃ i x, IsA F M i a x ∧ a.id = id ∧ RF w (some (a, x.1, x.2)) := by
 obtain ⟨h1, h2⟩ := lH ha
 obtain ⟨i, hi⟩ := List.getElem?_of_mem h1
 obtain ⟨x, hx⟩ : ∃ x, F.ab[i]? = some x := ⟨_, List.getElem?_eq_getElem (by rw [h.len]; exact (List.getElem?_eq_some_iff.1 hi).1)⟩
 exact ⟨i, x, ⟨hi, hx⟩, h2, (h.acs i a x hi hx).1, (h.acs i a x hi hx).2, h.wf.acs a h1⟩
theorem bo (w : World) (B : Nat) (F : FB) (M : PM) (hM : MD w B F M) (rp : Nat) (l id kind : Int) (h : RO w rp F.pm l) :
  Calls prog 113 #[.pointer (some ⟨rp, 0, none⟩), .int .i64 id, .int .i64 kind] w fun e w' => ∃ R : AR, e = .returned (pvR R) ∧ R.map (·.1) = acctO M id ∧ RF w' R ∧ RO w' rp F.pm (namedK M l id kind) ∧ But (fun i => i = rp) w w' := by
 have c0 := VA.cell h 0 (v := .pointer (some ⟨F.pm, 0, none⟩)) rfl
 have HR : Hid (RO w rp F.pm l) := h
 have HM := hI_ hM
 unfold namedK
 cases ha : acctO M id with
 | none =>
  have hn := acctO_none.1 ha
  clear h hM
  go_enter func113, ntmps113
  go_wp2_with fail
  refine (jr w B F M HM.out id hn).mono ?_
  rintro e w1 ⟨rfl, hw⟩
  obtain rfl := hw.symm
  go_wp2_with fail
  refine (eO w rp F.pm l 7 HR.out).mono ?_
  rintro r w1 ⟨rfl, h1, h2⟩
  have H1 : Hid (RO w1 rp F.pm (wth l 7)) := h1
  have H2 : Hid (But (fun i => i = rp) w w1) := h2
  clear h1 h2 ha hn c0
  go_wp2_with fail
  go_ret
  exact ⟨none, rfl, rfl, trivial, H1.out, H2.out⟩
 | some a =>
  obtain ⟨i, x, hi, hid, hrf⟩ := hM.acct ha
  have HF := hI_ (fun (_ : Unit) => fq w B F M hM hi)
  rw [hid] at HF
  have HRF : Hid (RF w (some (a, x.1, x.2))) := hrf
  obtain ⟨q, hb⟩ := x
  dsimp only at HF HRF
  dsimp only
  have c3 := HRF.out.1.cell 3 (v := .int .i64 a.kind) rfl
  have c4 := HRF.out.1.cell 4 (v := .bool a.opn) rfl
  clear h hM ha hi hid hrf HM
  go_enter func113, ntmps113
  go_wp2_with fail
  refine Calls.mono (HF.out ()) ?_
  rintro e w1 ⟨rfl, hw⟩
  obtain rfl := hw.symm
  clear HF
  go_wp2_with fail
  refine (ak w rp F.pm l 14 _ HR.out).mono ?_
  rintro r w1 ⟨rfl, h1, h2⟩
  have H1 : Hid (RO _ _ _ _) := h1
  have H2 : Hid (But (fun i => i = rp) w w1) := h2
  have HRF1 : Hid (RF w1 (some (a, q, hb))) := HRF.out.ro HR.out h2
  clear h1 h2 c3 c4 c0
  have d3 := HRF1.out.1.cell 3 (v := .int .i64 a.kind) rfl
  by_cases hk : kind = 0
  ·subst hk
   go_wp2_with fail
   refine (ak w1 rp F.pm _ 11 _ H1.out).mono ?_
   rintro r w2 ⟨rfl, h1, h2⟩
   have H3 : Hid (RO _ _ _ _) := h1
   have H4 : Hid (But (fun i => i = rp) w w2) := H2.out.trans h2 (fun i _ hx => hx)
   have HRF2 : Hid (RF w2 (some (a, q, hb))) := HRF1.out.ro H1.out h2
   clear h1 h2 d3
   go_wp2_with fail
   go_ret
   exact ⟨some (a, q, hb), rfl, rfl, HRF2.out, (by rw [show (((0 : Int) != 0) && (a.kind != 0)) = false from rfl]; exact H3.out), H4.out⟩
  ·have e1 : (kind != 0) = true := by simpa using hk
   clear hk
   go_wp2_with fail
   refine (ak w1 rp F.pm _ 11 _ H1.out).mono ?_
   rintro r w2 ⟨rfl, h1, h2⟩
   have H3 : Hid (RO _ _ _ _) := h1
   have H4 : Hid (But (fun i => i = rp) w w2) := H2.out.trans h2 (fun i _ hx => hx)
   have HRF2 : Hid (RF w2 (some (a, q, hb))) := HRF1.out.ro H1.out h2
   clear h1 h2 d3
   go_wp2_with fail
   go_ret
   exact ⟨some (a, q, hb), rfl, rfl, HRF2.out, (by rw [e1, Bool.true_and]; exact H3.out), H4.out⟩
def transferL (M : PM) (l a b n : Int) : Int := whn (whn (whn (namedK M (namedK M (whn (whn l (beyond n 10000000000000) 1) (a == b) 1) a 1) b 1) (fundsO M (acctO M a) n) 13) (roomO (acctO M b) n) 4) (curO (acctO M a) (acctO M b)) 10
def hasO (o : Option PA) (k : Int) : Bool := match o with
 | none => false
 | some a => (lkA a.hs k).getD 0 != 0
def noO (o : Option PA) (k : Int) : Bool := match o with
 | none => false
 | some a => (lkA a.hs k).getD 0 == 0
def fullO (o : Option PA) : Bool := match o with
 | none => false
 | some a => decide ((64 : Int) ≤ (a.hs.length : Int))
def holdL (M : PM) (l id k n : Int) : Int := whn (whn (whn (namedK M (whn (whn l (beyond n 10000000000000) 1) (beyond k 1000000000) 1) id 1) (fundsO M (acctO M id) n) 13) (hasO (acctO M id) k) 8) (fullO (acctO M id)) 17
def freeL (M : PM) (l id k : Int) : Int := whn (namedK M (whn l (beyond k 1000000000) 1) id 1) (noO (acctO M id) k) 7
def lessO (o : Option PA) (n : Int) : Bool := match o with
 | none => false
 | some a => decide (a.bal < n)
def repayL (M : PM) (l a b n : Int) : Int := whn (whn (whn (namedK M (namedK M (whn l (beyond n 10000000000000) 1) a 2) b 1) (curO (acctO M a) (acctO M b)) 10) (lessO (acctO M a) n) 12) (fundsO M (acctO M b) n) 13
theorem xJ (o : Option Int) : (o.map encI).getD (.int .i64 0) = .int .i64 (o.getD 0) := by cases o <;> rfl
theorem jx {w : World} {hb : Nat} {hs : List (Int × Int)} (h : AM KI encI w hb hs) {k : Int} (hk : I64 k) : (Instr.lookup 83 (.map (some hb)) (.int .i64 k) false).run prog w = .ok (.int .i64 ((lkA hs k).getD 0)) w := by
 have := h.look (t := 83) (e := 2) underlying83 (z := .int .i64 0) (Tryz.zeroValue2 w) (a := k) hk
 rw [xJ] at this
 exact this
theorem vS {w : World} {hb : Nat} {hs : List (Int × Int)} (h : AM KI encI w hb hs) (hp : hs.Pairwise fun p q => p.1 ≠ q.1) : (Builtin.len_ #[83] 3 #[.map (some hb)]).run prog w = .ok (.int .i64 hs.length) w := h.len underlying83 hp _
theorem jL (w : World) (B : Nat) (F : FB) (M : PM) (hM : MD w B F M) (rp : Nat) (l a b n : Int) (h : RO w rp F.pm l) :
  Calls prog 117 #[.pointer (some ⟨rp, 0, none⟩), .int .i64 a, .int .i64 b, .int .i64 n] w fun r w' => r = .returned (.tuple #[]) ∧ RO w' rp F.pm (transferL M l a b n) ∧ But (fun i => i = rp) w w' := by
 have HR_0 : Hid (RO w rp F.pm l) := h
 have HM_0 : Hid (MD w B F M) := hM
 have HB_0 : Hid (But (fun i => i = rp) w w) := But.refl _ _
 clear h hM
 go_enter func117, ntmps117
 go_wp2_with fail
 refine Calls.mono (bJ w rp F.pm _ n HR_0.out) ?_
 rintro r w1 ⟨rfl, h1, h2⟩
 have HR_1 : Hid (RO _ _ _ _) := h1
 have HB_1 : Hid (But (fun i => i = rp) w w1) := HB_0.out.trans h2 (fun i _ hx => hx)
 have HM_1 : Hid (MD w1 B F M) := HM_0.out.ro HR_0.out h2
 clear h1 h2 HR_0 HB_0 HM_0
 go_wp2_with fail
 refine Calls.mono (ak w1 rp F.pm _ 1 _ HR_1.out) ?_
 rintro r w2 ⟨rfl, h1, h2⟩
 have HR_2 : Hid (RO _ _ _ _) := h1
 have HB_2 : Hid (But (fun i => i = rp) w w2) := HB_1.out.trans h2 (fun i _ hx => hx)
 have HM_2 : Hid (MD w2 B F M) := HM_1.out.ro HR_1.out h2
 clear h1 h2 HR_1 HB_1 HM_1
 go_wp2_with fail
 refine Calls.mono (bo w2 B F M HM_2.out rp _ a 1 HR_2.out) ?_
 rintro r w3 ⟨R1, rfl, eR1, fR1, h1, h2⟩
 have HR_3 : Hid (RO _ _ _ _) := h1
 have HB_3 : Hid (But (fun i => i = rp) w w3) := HB_2.out.trans h2 (fun i _ hx => hx)
 have HM_3 : Hid (MD w3 B F M) := HM_2.out.ro HR_2.out h2
 have FR1_3 : Hid (RF w3 R1) := fR1
 have ER1 : Hid (_ = _) := eR1
 clear eR1 fR1 h1 h2 HR_2 HB_2 HM_2
 go_wp2_with fail
 refine Calls.mono (bo w3 B F M HM_3.out rp _ b 1 HR_3.out) ?_
 rintro r w4 ⟨R2, rfl, eR2, fR2, h1, h2⟩
 have HR_4 : Hid (RO _ _ _ _) := h1
 have HB_4 : Hid (But (fun i => i = rp) w w4) := HB_3.out.trans h2 (fun i _ hx => hx)
 have HM_4 : Hid (MD w4 B F M) := HM_3.out.ro HR_3.out h2
 have FR1_4 : Hid (RF w4 _) := FR1_3.out.ro HR_3.out h2
 have FR2_4 : Hid (RF w4 R2) := fR2
 have ER2 : Hid (_ = _) := eR2
 clear eR2 fR2 h1 h2 HR_3 HB_3 HM_3 FR1_3
 go_wp2_with fail
 refine Calls.mono (de w4 B F M HM_4.out rp _ n R1 HR_4.out FR1_4.out) ?_
 rintro r w5 ⟨rfl, h1, h2⟩
 have HR_5 : Hid (RO _ _ _ _) := h1
 have HB_5 : Hid (But (fun i => i = rp) w w5) := HB_4.out.trans h2 (fun i _ hx => hx)
 have HM_5 : Hid (MD w5 B F M) := HM_4.out.ro HR_4.out h2
 have FR1_5 : Hid (RF w5 _) := FR1_4.out.ro HR_4.out h2
 have FR2_5 : Hid (RF w5 _) := FR2_4.out.ro HR_4.out h2
 clear h1 h2 HR_4 HB_4 HM_4 FR1_4 FR2_4
 go_wp2_with fail
 refine Calls.mono (gA w5 rp F.pm _ n R2 HR_5.out FR2_5.out) ?_
 rintro r w6 ⟨rfl, h1, h2⟩
 have HR_6 : Hid (RO _ _ _ _) := h1
 have HB_6 : Hid (But (fun i => i = rp) w w6) := HB_5.out.trans h2 (fun i _ hx => hx)
 have HM_6 : Hid (MD w6 B F M) := HM_5.out.ro HR_5.out h2
 have FR1_6 : Hid (RF w6 _) := FR1_5.out.ro HR_5.out h2
 have FR2_6 : Hid (RF w6 _) := FR2_5.out.ro HR_5.out h2
 clear h1 h2 HR_5 HB_5 HM_5 FR1_5 FR2_5
 go_wp2_with fail
 refine Calls.mono (fT w6 rp F.pm _ R1 R2 HR_6.out FR1_6.out FR2_6.out) ?_
 rintro r w7 ⟨rfl, h1, h2⟩
 have HR_7 : Hid (RO _ _ _ _) := h1
 have HB_7 : Hid (But (fun i => i = rp) w w7) := HB_6.out.trans h2 (fun i _ hx => hx)
 have HM_7 : Hid (MD w7 B F M) := HM_6.out.ro HR_6.out h2
 have FR1_7 : Hid (RF w7 _) := FR1_6.out.ro HR_6.out h2
 have FR2_7 : Hid (RF w7 _) := FR2_6.out.ro HR_6.out h2
 clear h1 h2 HR_6 HB_6 HM_6 FR1_6 FR2_6
 go_wp2_with fail
 refine bodyPost_end (v := .tuple #[]) (by simp [results, results117, go_sem]) rfl ?_
 refine ⟨rfl, ?_, HB_7.out⟩
 have H := HR_7.out
 rw [bQ, fE, ER1.out, ER2.out] at H
 exact H
theorem rq (w : World) (B : Nat) (F : FB) (M : PM) (hM : MD w B F M) (rp : Nat) (l id k n : Int) (h : RO w rp F.pm l) (hk : I64 k) :
  Calls prog 118 #[.pointer (some ⟨rp, 0, none⟩), .int .i64 id, .int .i64 k, .int .i64 n] w fun r w' => r = .returned (.tuple #[]) ∧ RO w' rp F.pm (holdL M l id k n) ∧ But (fun i => i = rp) w w' := by
 have HR_0 : Hid (RO w rp F.pm l) := h
 have HM_0 : Hid (MD w B F M) := hM
 have HB_0 : Hid (But (fun i => i = rp) w w) := But.refl _ _
 clear h hM
 go_enter func118, ntmps118
 go_wp2_with fail
 refine Calls.mono (bJ w rp F.pm _ n HR_0.out) ?_
 rintro r w1 ⟨rfl, h1, h2⟩
 have HR_1 : Hid (RO _ _ _ _) := h1
 have HB_1 : Hid (But (fun i => i = rp) w w1) := HB_0.out.trans h2 (fun i _ hx => hx)
 have HM_1 : Hid (MD w1 B F M) := HM_0.out.ro HR_0.out h2
 clear h1 h2 HR_0 HB_0 HM_0
 go_wp2_with fail
 refine Calls.mono (bK w1 rp F.pm _ k 1000000000 HR_1.out) ?_
 rintro r w2 ⟨rfl, h1, h2⟩
 have HR_2 : Hid (RO _ _ _ _) := h1
 have HB_2 : Hid (But (fun i => i = rp) w w2) := HB_1.out.trans h2 (fun i _ hx => hx)
 have HM_2 : Hid (MD w2 B F M) := HM_1.out.ro HR_1.out h2
 clear h1 h2 HR_1 HB_1 HM_1
 go_wp2_with fail
 refine Calls.mono (bo w2 B F M HM_2.out rp _ id 1 HR_2.out) ?_
 rintro r w3 ⟨R1, rfl, eR1, fR1, h1, h2⟩
 have HR_3 : Hid (RO _ _ _ _) := h1
 have HB_3 : Hid (But (fun i => i = rp) w w3) := HB_2.out.trans h2 (fun i _ hx => hx)
 have HM_3 : Hid (MD w3 B F M) := HM_2.out.ro HR_2.out h2
 have FR1_3 : Hid (RF w3 R1) := fR1
 have ER1 : Hid (_ = _) := eR1
 clear eR1 fR1 h1 h2 HR_2 HB_2 HM_2
 go_wp2_with fail
 refine Calls.mono (de w3 B F M HM_3.out rp _ n R1 HR_3.out FR1_3.out) ?_
 rintro r w4 ⟨rfl, h1, h2⟩
 have HR_4 : Hid (RO _ _ _ _) := h1
 have HB_4 : Hid (But (fun i => i = rp) w w4) := HB_3.out.trans h2 (fun i _ hx => hx)
 have HM_4 : Hid (MD w4 B F M) := HM_3.out.ro HR_3.out h2
 have FR1_4 : Hid (RF w4 _) := FR1_3.out.ro HR_3.out h2
 clear h1 h2 HR_3 HB_3 HM_3 FR1_3
 cases R1 with
 | none =>
  rw [show pvR (none : AR) = .pointer none from rfl]
  go_wp2_with fail
  refine Calls.mono (ak w4 rp F.pm _ 8 _ HR_4.out) ?_
  rintro r w5 ⟨rfl, h1, h2⟩
  have HR_5 : Hid (RO _ _ _ _) := h1
  have HB_5 : Hid (But (fun i => i = rp) w w5) := HB_4.out.trans h2 (fun i _ hx => hx)
  have HM_5 : Hid (MD w5 B F M) := HM_4.out.ro HR_4.out h2
  have FR1_5 : Hid (RF w5 _) := FR1_4.out.ro HR_4.out h2
  clear h1 h2 HR_4 HB_4 HM_4 FR1_4
  go_wp2_with fail
  refine Calls.mono (ak w5 rp F.pm _ 17 _ HR_5.out) ?_
  rintro r w6 ⟨rfl, h1, h2⟩
  have HR_6 : Hid (RO _ _ _ _) := h1
  have HB_6 : Hid (But (fun i => i = rp) w w6) := HB_5.out.trans h2 (fun i _ hx => hx)
  have HM_6 : Hid (MD w6 B F M) := HM_5.out.ro HR_5.out h2
  have FR1_6 : Hid (RF w6 _) := FR1_5.out.ro HR_5.out h2
  clear h1 h2 HR_5 HB_5 HM_5 FR1_5
  go_wp2_with fail
  refine bodyPost_end (v := .tuple #[]) (by simp [results, results118, go_sem]) rfl ?_
  refine ⟨rfl, ?_, HB_6.out⟩
  have H := HR_6.out
  rw [bQ, ER1.out] at H
  have e := ER1.out
  unfold holdL
  rw [← e] at H ⊢
  exact H
 | some x =>
  obtain ⟨a, aq, ah⟩ := x
  rw [show pvR (some (a, aq, ah) : AR) = .pointer (some ⟨aq, 0, none⟩) from rfl]
  have c8_4 := FR1_4.out.1.cell 8 (v := .map (some ah)) rfl
  have k1 := jx FR1_4.out.2.1 hk
  go_wp2_with fail
  refine Calls.mono (ak w4 rp F.pm _ 8 _ HR_4.out) ?_
  rintro r w5 ⟨rfl, h1, h2⟩
  have HR_5 : Hid (RO _ _ _ _) := h1
  have HB_5 : Hid (But (fun i => i = rp) w w5) := HB_4.out.trans h2 (fun i _ hx => hx)
  have HM_5 : Hid (MD w5 B F M) := HM_4.out.ro HR_4.out h2
  have FR1_5 : Hid (RF w5 _) := FR1_4.out.ro HR_4.out h2
  clear h1 h2 HR_4 HB_4 HM_4 FR1_4 k1 c8_4
  have c8_5 := FR1_5.out.1.cell 8 (v := .map (some ah)) rfl
  have k2 := vS FR1_5.out.2.1 FR1_5.out.2.2.hs
  go_wp2_with fail
  refine Calls.mono (ak w5 rp F.pm _ 17 _ HR_5.out) ?_
  rintro r w6 ⟨rfl, h1, h2⟩
  have HR_6 : Hid (RO _ _ _ _) := h1
  have HB_6 : Hid (But (fun i => i = rp) w w6) := HB_5.out.trans h2 (fun i _ hx => hx)
  have HM_6 : Hid (MD w6 B F M) := HM_5.out.ro HR_5.out h2
  have FR1_6 : Hid (RF w6 _) := FR1_5.out.ro HR_5.out h2
  clear h1 h2 HR_5 HB_5 HM_5 FR1_5 k2 c8_5
  go_wp2_with fail
  refine bodyPost_end (v := .tuple #[]) (by simp [results, results118, go_sem]) rfl ?_
  refine ⟨rfl, ?_, HB_6.out⟩
  have H := HR_6.out
  rw [bQ] at H
  unfold holdL
  rw [← ER1.out]
  exact H
theorem rl (w : World) (B : Nat) (F : FB) (M : PM) (hM : MD w B F M) (rp : Nat) (l id k : Int) (h : RO w rp F.pm l) (hk : I64 k) :
  Calls prog 119 #[.pointer (some ⟨rp, 0, none⟩), .int .i64 id, .int .i64 k] w fun r w' => r = .returned (.tuple #[]) ∧ RO w' rp F.pm (freeL M l id k) ∧ But (fun i => i = rp) w w' := by
 have HR_0 : Hid (RO w rp F.pm l) := h
 have HM_0 : Hid (MD w B F M) := hM
 have HB_0 : Hid (But (fun i => i = rp) w w) := But.refl _ _
 clear h hM
 go_enter func119, ntmps119
 go_wp2_with fail
 refine Calls.mono (bK w rp F.pm _ k 1000000000 HR_0.out) ?_
 rintro r w1 ⟨rfl, h1, h2⟩
 have HR_1 : Hid (RO _ _ _ _) := h1
 have HB_1 : Hid (But (fun i => i = rp) w w1) := HB_0.out.trans h2 (fun i _ hx => hx)
 have HM_1 : Hid (MD w1 B F M) := HM_0.out.ro HR_0.out h2
 clear h1 h2 HR_0 HB_0 HM_0
 go_wp2_with fail
 refine Calls.mono (bo w1 B F M HM_1.out rp _ id 1 HR_1.out) ?_
 rintro r w2 ⟨R1, rfl, eR1, fR1, h1, h2⟩
 have HR_2 : Hid (RO _ _ _ _) := h1
 have HB_2 : Hid (But (fun i => i = rp) w w2) := HB_1.out.trans h2 (fun i _ hx => hx)
 have HM_2 : Hid (MD w2 B F M) := HM_1.out.ro HR_1.out h2
 have FR1_2 : Hid (RF w2 R1) := fR1
 have ER1 : Hid (_ = _) := eR1
 clear eR1 fR1 h1 h2 HR_1 HB_1 HM_1
 cases R1 with
 | none =>
  rw [show pvR (none : AR) = .pointer none from rfl]
  go_wp2_with fail
  refine Calls.mono (ak w2 rp F.pm _ 7 _ HR_2.out) ?_
  rintro r w3 ⟨rfl, h1, h2⟩
  have HR_3 : Hid (RO _ _ _ _) := h1
  have HB_3 : Hid (But (fun i => i = rp) w w3) := HB_2.out.trans h2 (fun i _ hx => hx)
  have HM_3 : Hid (MD w3 B F M) := HM_2.out.ro HR_2.out h2
  have FR1_3 : Hid (RF w3 _) := FR1_2.out.ro HR_2.out h2
  clear h1 h2 HR_2 HB_2 HM_2 FR1_2
  go_wp2_with fail
  refine bodyPost_end (v := .tuple #[]) (by simp [results, results119, go_sem]) rfl ?_
  refine ⟨rfl, ?_, HB_3.out⟩
  have H := HR_3.out
  unfold freeL
  rw [← ER1.out]
  exact H
 | some x =>
  obtain ⟨a, aq, ah⟩ := x
  rw [show pvR (some (a, aq, ah) : AR) = .pointer (some ⟨aq, 0, none⟩) from rfl]
  have c8_2 := FR1_2.out.1.cell 8 (v := .map (some ah)) rfl
  have k1 := jx FR1_2.out.2.1 hk
  go_wp2_with fail
  refine Calls.mono (ak w2 rp F.pm _ 7 _ HR_2.out) ?_
  rintro r w3 ⟨rfl, h1, h2⟩
  have HR_3 : Hid (RO _ _ _ _) := h1
  have HB_3 : Hid (But (fun i => i = rp) w w3) := HB_2.out.trans h2 (fun i _ hx => hx)
  have HM_3 : Hid (MD w3 B F M) := HM_2.out.ro HR_2.out h2
  have FR1_3 : Hid (RF w3 _) := FR1_2.out.ro HR_2.out h2
  clear h1 h2 HR_2 HB_2 HM_2 FR1_2 k1 c8_2
  go_wp2_with fail
  refine bodyPost_end (v := .tuple #[]) (by simp [results, results119, go_sem]) rfl ?_
  refine ⟨rfl, ?_, HB_3.out⟩
  have H := HR_3.out
  unfold freeL
  rw [← ER1.out]
  exact H
theorem oS (w : World) (B : Nat) (F : FB) (M : PM) (hM : MD w B F M) (rp : Nat) (l a b n : Int) (h : RO w rp F.pm l) :
  Calls prog 121 #[.pointer (some ⟨rp, 0, none⟩), .int .i64 a, .int .i64 b, .int .i64 n] w fun r w' => r = .returned (.tuple #[]) ∧ RO w' rp F.pm (repayL M l a b n) ∧ But (fun i => i = rp) w w' := by
 have HR_0 : Hid (RO w rp F.pm l) := h
 have HM_0 : Hid (MD w B F M) := hM
 have HB_0 : Hid (But (fun i => i = rp) w w) := But.refl _ _
 clear h hM
 go_enter func121, ntmps121
 go_wp2_with fail
 refine Calls.mono (bJ w rp F.pm _ n HR_0.out) ?_
 rintro r w1 ⟨rfl, h1, h2⟩
 have HR_1 : Hid (RO _ _ _ _) := h1
 have HB_1 : Hid (But (fun i => i = rp) w w1) := HB_0.out.trans h2 (fun i _ hx => hx)
 have HM_1 : Hid (MD w1 B F M) := HM_0.out.ro HR_0.out h2
 clear h1 h2 HR_0 HB_0 HM_0
 go_wp2_with fail
 refine Calls.mono (bo w1 B F M HM_1.out rp _ a 2 HR_1.out) ?_
 rintro r w2 ⟨R1, rfl, eR1, fR1, h1, h2⟩
 have HR_2 : Hid (RO _ _ _ _) := h1
 have HB_2 : Hid (But (fun i => i = rp) w w2) := HB_1.out.trans h2 (fun i _ hx => hx)
 have HM_2 : Hid (MD w2 B F M) := HM_1.out.ro HR_1.out h2
 have FR1_2 : Hid (RF w2 R1) := fR1
 have ER1 : Hid (_ = _) := eR1
 clear eR1 fR1 h1 h2 HR_1 HB_1 HM_1
 go_wp2_with fail
 refine Calls.mono (bo w2 B F M HM_2.out rp _ b 1 HR_2.out) ?_
 rintro r w3 ⟨R2, rfl, eR2, fR2, h1, h2⟩
 have HR_3 : Hid (RO _ _ _ _) := h1
 have HB_3 : Hid (But (fun i => i = rp) w w3) := HB_2.out.trans h2 (fun i _ hx => hx)
 have HM_3 : Hid (MD w3 B F M) := HM_2.out.ro HR_2.out h2
 have FR1_3 : Hid (RF w3 _) := FR1_2.out.ro HR_2.out h2
 have FR2_3 : Hid (RF w3 R2) := fR2
 have ER2 : Hid (_ = _) := eR2
 clear eR2 fR2 h1 h2 HR_2 HB_2 HM_2 FR1_2
 go_wp2_with fail
 refine Calls.mono (fT w3 rp F.pm _ R1 R2 HR_3.out FR1_3.out FR2_3.out) ?_
 rintro r w4 ⟨rfl, h1, h2⟩
 have HR_4 : Hid (RO _ _ _ _) := h1
 have HB_4 : Hid (But (fun i => i = rp) w w4) := HB_3.out.trans h2 (fun i _ hx => hx)
 have HM_4 : Hid (MD w4 B F M) := HM_3.out.ro HR_3.out h2
 have FR1_4 : Hid (RF w4 _) := FR1_3.out.ro HR_3.out h2
 have FR2_4 : Hid (RF w4 _) := FR2_3.out.ro HR_3.out h2
 clear h1 h2 HR_3 HB_3 HM_3 FR1_3 FR2_3
 cases R1 with
 | none =>
  rw [show pvR (none : AR) = .pointer none from rfl]
  go_wp2_with fail
  refine Calls.mono (ak w4 rp F.pm _ 12 _ HR_4.out) ?_
  rintro r w5 ⟨rfl, h1, h2⟩
  have HR_5 : Hid (RO _ _ _ _) := h1
  have HB_5 : Hid (But (fun i => i = rp) w w5) := HB_4.out.trans h2 (fun i _ hx => hx)
  have HM_5 : Hid (MD w5 B F M) := HM_4.out.ro HR_4.out h2
  have FR1_5 : Hid (RF w5 _) := FR1_4.out.ro HR_4.out h2
  have FR2_5 : Hid (RF w5 _) := FR2_4.out.ro HR_4.out h2
  clear h1 h2 HR_4 HB_4 HM_4 FR1_4 FR2_4
  go_wp2_with fail
  refine Calls.mono (de w5 B F M HM_5.out rp _ n R2 HR_5.out FR2_5.out) ?_
  rintro r w6 ⟨rfl, h1, h2⟩
  have HR_6 : Hid (RO _ _ _ _) := h1
  have HB_6 : Hid (But (fun i => i = rp) w w6) := HB_5.out.trans h2 (fun i _ hx => hx)
  have HM_6 : Hid (MD w6 B F M) := HM_5.out.ro HR_5.out h2
  have FR1_6 : Hid (RF w6 _) := FR1_5.out.ro HR_5.out h2
  have FR2_6 : Hid (RF w6 _) := FR2_5.out.ro HR_5.out h2
  clear h1 h2 HR_5 HB_5 HM_5 FR1_5 FR2_5
  go_wp2_with fail
  refine bodyPost_end (v := .tuple #[]) (by simp [results, results121, go_sem]) rfl ?_
  refine ⟨rfl, ?_, HB_6.out⟩
  have H := HR_6.out
  rw [bQ, ER2.out] at H
  unfold repayL
  rw [← ER1.out]
  exact H
 | some x =>
  obtain ⟨c, aq, ah⟩ := x
  rw [show pvR (some (c, aq, ah) : AR) = .pointer (some ⟨aq, 0, none⟩) from rfl]
  have c5 := FR1_4.out.1.cell 5 (v := .int .i64 c.bal) rfl
  go_wp2_with fail
  refine Calls.mono (ak w4 rp F.pm _ 12 _ HR_4.out) ?_
  rintro r w5 ⟨rfl, h1, h2⟩
  have HR_5 : Hid (RO _ _ _ _) := h1
  have HB_5 : Hid (But (fun i => i = rp) w w5) := HB_4.out.trans h2 (fun i _ hx => hx)
  have HM_5 : Hid (MD w5 B F M) := HM_4.out.ro HR_4.out h2
  have FR1_5 : Hid (RF w5 _) := FR1_4.out.ro HR_4.out h2
  have FR2_5 : Hid (RF w5 _) := FR2_4.out.ro HR_4.out h2
  clear h1 h2 HR_4 HB_4 HM_4 FR1_4 FR2_4 c5
  go_wp2_with fail
  refine Calls.mono (de w5 B F M HM_5.out rp _ n R2 HR_5.out FR2_5.out) ?_
  rintro r w6 ⟨rfl, h1, h2⟩
  have HR_6 : Hid (RO _ _ _ _) := h1
  have HB_6 : Hid (But (fun i => i = rp) w w6) := HB_5.out.trans h2 (fun i _ hx => hx)
  have HM_6 : Hid (MD w6 B F M) := HM_5.out.ro HR_5.out h2
  have FR1_6 : Hid (RF w6 _) := FR1_5.out.ro HR_5.out h2
  have FR2_6 : Hid (RF w6 _) := FR2_5.out.ro HR_5.out h2
  clear h1 h2 HR_5 HB_5 HM_5 FR1_5 FR2_5
  go_wp2_with fail
  refine bodyPost_end (v := .tuple #[]) (by simp [results, results121, go_sem]) rfl ?_
  refine ⟨rfl, ?_, HB_6.out⟩
  have H := HR_6.out
  rw [bQ, ER2.out] at H
  unfold repayL
  rw [← ER1.out]
  exact H
structure TBL (w : World) : Prop where
 cu : Cu w
 lim : Lim w
 tc : Tc w
theorem TBL.lt {w : World} (h : TBL w) : 5 < w.heap.size := by
 have h1 := h.lim.bal.lt
 have h2 := h.lim.amt.lt
 omega
theorem TBL.blk {w w' : World} (h : TBL w) (s : w.heap.size ≤ w'.heap.size) (k : ∀ b, b ≤ 5 → w'.heap[b]? = w.heap[b]?) : TBL w' :=
 ⟨⟨fun i hi => (World.cell?_of_block (w := w) (w' := w') (a := ⟨0, i * 2 + 1, none⟩) (k 0 (by omega))).trans (h.cu.row i hi)⟩, h.lim.blk s (fun b hb => k b (by omega)), ⟨fun i hi => (World.cell?_of_block (w := w) (w' := w') (a := ⟨1, i, none⟩) (k 1 (by omega))).trans (h.tc.row i hi)⟩⟩
theorem TBL.step {w w' : World} (h : TBL w) (k : Below w.heap.size w w') : TBL w' := h.blk k.size (fun b hb => k.block b (by have := h.lt; omega))
theorem TBL.but {X : Nat → Prop} {w w' : World} (h : TBL w) (k : But X w w') (hX : ∀ i, X i → 6 ≤ i) : TBL w' := h.blk k.size (fun b hb => k.block b (by have := h.lt; omega) (fun e => by have := hX b e; omega))
theorem cJ (w : World) (T : Cu w) (c : Int) : Calls prog 42 #[.int .i64 c] w fun e w' => e = .returned (.bool (wi c 0 3)) ∧ w' = w := by
 by_cases h : 0 ≤ c ∧ c ≤ 3
 ·rw [br h.1 h.2]
  obtain ⟨i, rfl⟩ : ∃ i : Nat, c = (i : Int) := ⟨c.toNat, by omega⟩
  have HD := hI_ (fun (_ : Unit) => gO i w T (by omega))
  clear h T
  go_enter func42, ntmps42
  go_wp2_with fail
  refine Calls.mono (HD.out ()) ?_
  rintro e w1 ⟨rfl, hw⟩
  obtain rfl := hw.symm
  go_wp2_with fail
  go_ret
  exact ⟨rfl, rfl⟩
 ·rw [jb h]
  have HD := hI_ (fun (_ : Unit) => nW c w h)
  clear h T
  go_enter func42, ntmps42
  go_wp2_with fail
  refine Calls.mono (HD.out ()) ?_
  rintro e w1 ⟨rfl, hw⟩
  obtain rfl := hw.symm
  go_wp2_with fail
  go_ret
  exact ⟨rfl, rfl⟩
def rateL (l c u n : Int) : Int := whn (whn (whn l (!(wi c 0 3) || !(wi u 0 3)) 1) (beyond n 1000000000000) 1) (c == u) 10
def limO (M : PM) (o : Option PA) (n : Int) : Bool := match o with
 | none => false
 | some a => decide ((ver M a.prod).lim < n)
def owesO (o : Option PA) : Bool := match o with
 | none => false
 | some a => a.bal != 0
def lendL (M : PM) (l a b n m : Int) : Int := whn (whn (whn (whn (namedK M (namedK M (whn (whn l (beyond n 10000000000000) 1) (beyond m 480) 1) a 2) b 1) (roomO (acctO M b) n) 4) (curO (acctO M a) (acctO M b)) 10) (limO M (acctO M a) n) 12) (owesO (acctO M a)) 14
def openL (M : PM) (l id p : Int) : Int := whn (whn (wth (whn l (beyond id 1000000000) 1) (if (verO M p).isSome then 0 else 7)) (acctO M id).isSome 8) (decide ((256 : Int) ≤ (M.al.length : Int))) 17
theorem rz (w : World) (B : Nat) (F : FB) (M : PM) (hM : MD w B F M) (rp : Nat) (l c u n : Int) (h : RO w rp F.pm l) (T : Cu w) :
  Calls prog 122 #[.pointer (some ⟨rp, 0, none⟩), .int .i64 c, .int .i64 u, .int .i64 n] w fun r w' => r = .returned (.tuple #[]) ∧ RO w' rp F.pm (rateL l c u n) ∧ But (fun i => i = rp) w w' := by
 have HR_0 : Hid (RO w rp F.pm l) := h
 have HM_0 : Hid (MD w B F M) := hM
 have HB_0 : Hid (But (fun i => i = rp) w w) := But.refl _ _
 have HCU : Hid (Cu w) := T
 clear h hM T
 cases hc : wi c 0 3 with
 | false =>
  go_enter func122, ntmps122
  go_wp2_with fail
  refine (cJ w HCU.out c).mono ?_
  rintro e wq ⟨rfl, hwq⟩
  obtain rfl := hwq.symm
  clear hwq
  rw [hc]
  go_wp2_with fail
  refine Calls.mono (ak w rp F.pm _ 1 _ HR_0.out) ?_
  rintro r w1 ⟨rfl, h1, h2⟩
  have HR_1 : Hid (RO _ _ _ _) := h1
  have HB_1 : Hid (But (fun i => i = rp) w w1) := HB_0.out.trans h2 (fun i _ hx => hx)
  have HM_1 : Hid (MD w1 B F M) := HM_0.out.ro HR_0.out h2
  clear h1 h2 HR_0 HB_0 HM_0
  go_wp2_with fail
  refine Calls.mono (bK w1 rp F.pm _ n 1000000000000 HR_1.out) ?_
  rintro r w2 ⟨rfl, h1, h2⟩
  have HR_2 : Hid (RO _ _ _ _) := h1
  have HB_2 : Hid (But (fun i => i = rp) w w2) := HB_1.out.trans h2 (fun i _ hx => hx)
  have HM_2 : Hid (MD w2 B F M) := HM_1.out.ro HR_1.out h2
  clear h1 h2 HR_1 HB_1 HM_1
  go_wp2_with fail
  refine Calls.mono (ak w2 rp F.pm _ 10 _ HR_2.out) ?_
  rintro r w3 ⟨rfl, h1, h2⟩
  have HR_3 : Hid (RO _ _ _ _) := h1
  have HB_3 : Hid (But (fun i => i = rp) w w3) := HB_2.out.trans h2 (fun i _ hx => hx)
  have HM_3 : Hid (MD w3 B F M) := HM_2.out.ro HR_2.out h2
  clear h1 h2 HR_2 HB_2 HM_2
  go_wp2_with fail
  refine bodyPost_end (v := .tuple #[]) (by simp [results, results122, go_sem]) rfl ?_
  refine ⟨rfl, ?_, HB_3.out⟩
  have H := HR_3.out
  unfold rateL
  rw [hc]
  exact H
 | true =>
  go_enter func122, ntmps122
  go_wp2_with fail
  refine (cJ w HCU.out c).mono ?_
  rintro e wq ⟨rfl, hwq⟩
  obtain rfl := hwq.symm
  clear hwq
  rw [hc]
  go_wp2_with fail
  refine (cJ w HCU.out u).mono ?_
  rintro e wq ⟨rfl, hwq⟩
  obtain rfl := hwq.symm
  clear hwq
  go_wp2_with fail
  refine Calls.mono (ak w rp F.pm _ 1 _ HR_0.out) ?_
  rintro r w1 ⟨rfl, h1, h2⟩
  have HR_1 : Hid (RO _ _ _ _) := h1
  have HB_1 : Hid (But (fun i => i = rp) w w1) := HB_0.out.trans h2 (fun i _ hx => hx)
  have HM_1 : Hid (MD w1 B F M) := HM_0.out.ro HR_0.out h2
  clear h1 h2 HR_0 HB_0 HM_0
  go_wp2_with fail
  refine Calls.mono (bK w1 rp F.pm _ n 1000000000000 HR_1.out) ?_
  rintro r w2 ⟨rfl, h1, h2⟩
  have HR_2 : Hid (RO _ _ _ _) := h1
  have HB_2 : Hid (But (fun i => i = rp) w w2) := HB_1.out.trans h2 (fun i _ hx => hx)
  have HM_2 : Hid (MD w2 B F M) := HM_1.out.ro HR_1.out h2
  clear h1 h2 HR_1 HB_1 HM_1
  go_wp2_with fail
  refine Calls.mono (ak w2 rp F.pm _ 10 _ HR_2.out) ?_
  rintro r w3 ⟨rfl, h1, h2⟩
  have HR_3 : Hid (RO _ _ _ _) := h1
  have HB_3 : Hid (But (fun i => i = rp) w w3) := HB_2.out.trans h2 (fun i _ hx => hx)
  have HM_3 : Hid (MD w3 B F M) := HM_2.out.ro HR_2.out h2
  clear h1 h2 HR_2 HB_2 HM_2
  go_wp2_with fail
  refine bodyPost_end (v := .tuple #[]) (by simp [results, results122, go_sem]) rfl ?_
  refine ⟨rfl, ?_, HB_3.out⟩
  have H := HR_3.out
  unfold rateL
  rw [hc]
  exact H
theorem ru (w : World) (B : Nat) (F : FB) (M : PM) (hM : MD w B F M) (rp : Nat) (l a b n m : Int) (h : RO w rp F.pm l) :
  Calls prog 120 #[.pointer (some ⟨rp, 0, none⟩), .int .i64 a, .int .i64 b, .int .i64 n, .int .i64 m] w fun r w' => r = .returned (.tuple #[]) ∧ RO w' rp F.pm (lendL M l a b n m) ∧ But (fun i => i = rp) w w' := by
 have HR_0 : Hid (RO w rp F.pm l) := h
 have HM_0 : Hid (MD w B F M) := hM
 have HB_0 : Hid (But (fun i => i = rp) w w) := But.refl _ _
 clear h hM
 go_enter func120, ntmps120
 go_wp2_with fail
 refine Calls.mono (bJ w rp F.pm _ n HR_0.out) ?_
 rintro r w1 ⟨rfl, h1, h2⟩
 have HR_1 : Hid (RO _ _ _ _) := h1
 have HB_1 : Hid (But (fun i => i = rp) w w1) := HB_0.out.trans h2 (fun i _ hx => hx)
 have HM_1 : Hid (MD w1 B F M) := HM_0.out.ro HR_0.out h2
 clear h1 h2 HR_0 HB_0 HM_0
 go_wp2_with fail
 refine Calls.mono (bK w1 rp F.pm _ m 480 HR_1.out) ?_
 rintro r w2 ⟨rfl, h1, h2⟩
 have HR_2 : Hid (RO _ _ _ _) := h1
 have HB_2 : Hid (But (fun i => i = rp) w w2) := HB_1.out.trans h2 (fun i _ hx => hx)
 have HM_2 : Hid (MD w2 B F M) := HM_1.out.ro HR_1.out h2
 clear h1 h2 HR_1 HB_1 HM_1
 go_wp2_with fail
 refine Calls.mono (bo w2 B F M HM_2.out rp _ a 2 HR_2.out) ?_
 rintro r w3 ⟨R1, rfl, eR1, fR1, h1, h2⟩
 have HR_3 : Hid (RO _ _ _ _) := h1
 have HB_3 : Hid (But (fun i => i = rp) w w3) := HB_2.out.trans h2 (fun i _ hx => hx)
 have HM_3 : Hid (MD w3 B F M) := HM_2.out.ro HR_2.out h2
 have FR1_3 : Hid (RF w3 R1) := fR1
 have ER1 : Hid (_ = _) := eR1
 clear eR1 fR1 h1 h2 HR_2 HB_2 HM_2
 go_wp2_with fail
 refine Calls.mono (bo w3 B F M HM_3.out rp _ b 1 HR_3.out) ?_
 rintro r w4 ⟨R2, rfl, eR2, fR2, h1, h2⟩
 have HR_4 : Hid (RO _ _ _ _) := h1
 have HB_4 : Hid (But (fun i => i = rp) w w4) := HB_3.out.trans h2 (fun i _ hx => hx)
 have HM_4 : Hid (MD w4 B F M) := HM_3.out.ro HR_3.out h2
 have FR1_4 : Hid (RF w4 _) := FR1_3.out.ro HR_3.out h2
 have FR2_4 : Hid (RF w4 R2) := fR2
 have ER2 : Hid (_ = _) := eR2
 clear eR2 fR2 h1 h2 HR_3 HB_3 HM_3 FR1_3
 go_wp2_with fail
 refine Calls.mono (gA w4 rp F.pm _ n R2 HR_4.out FR2_4.out) ?_
 rintro r w5 ⟨rfl, h1, h2⟩
 have HR_5 : Hid (RO _ _ _ _) := h1
 have HB_5 : Hid (But (fun i => i = rp) w w5) := HB_4.out.trans h2 (fun i _ hx => hx)
 have HM_5 : Hid (MD w5 B F M) := HM_4.out.ro HR_4.out h2
 have FR1_5 : Hid (RF w5 _) := FR1_4.out.ro HR_4.out h2
 have FR2_5 : Hid (RF w5 _) := FR2_4.out.ro HR_4.out h2
 clear h1 h2 HR_4 HB_4 HM_4 FR1_4 FR2_4
 go_wp2_with fail
 refine Calls.mono (fT w5 rp F.pm _ R1 R2 HR_5.out FR1_5.out FR2_5.out) ?_
 rintro r w6 ⟨rfl, h1, h2⟩
 have HR_6 : Hid (RO _ _ _ _) := h1
 have HB_6 : Hid (But (fun i => i = rp) w w6) := HB_5.out.trans h2 (fun i _ hx => hx)
 have HM_6 : Hid (MD w6 B F M) := HM_5.out.ro HR_5.out h2
 have FR1_6 : Hid (RF w6 _) := FR1_5.out.ro HR_5.out h2
 have FR2_6 : Hid (RF w6 _) := FR2_5.out.ro HR_5.out h2
 clear h1 h2 HR_5 HB_5 HM_5 FR1_5 FR2_5
 cases R1 with
 | none =>
  rw [show pvR (none : AR) = .pointer none from rfl]
  go_upto_region 5 with fail
  have BB_6 := hI_ (Below.refl w6.heap.size w6)
  refine wp_region_noPanic ?_
  refine wp_region_held_drew (S := fun _ => True) (by kernel_rfl) (trivial) ?_
  intro hh_
  have bz := (Below.refl w6.heap.size w6).drew
  have HM_z := hI_ (HM_6.out.step bz)
  have HR_z := hI_ (HR_6.out.step bz)
  have FR1_z : Hid (RF _ _) := FR1_6.out.step bz
  have FR2_z : Hid (RF _ _) := FR2_6.out.step bz
  have BB_z := hI_ (BB_6.out.trans (bz.mono BB_6.out.size))
  generalize w6.drew = wz at *
  clear bz
  refine tL 0 32 (.pointer (some ⟨rp, 0, none⟩)) ?_ ?_
  ·intro wq hS
   go_simp
  try simp only [nrm]
  refine tL 1 33 (.pointer none) ?_ ?_
  ·intro wq hS
   go_simp
  try simp only [nrm]
  refine tL 2 34 (.bool false) ?_ ?_
  ·intro wq hS
   go_simp
  try simp only [nrm]
  refine tL 3 35 (.bool false) ?_ ?_
  ·intro wq hS
   go_simp
  try simp only [nrm]
  refine tM 4 36 undef ?_
  try simp only [nrm]
  refine tM 5 37 undef ?_
  try simp only [nrm]
  refine tM 6 38 undef ?_
  try simp only [nrm]
  refine tM 7 39 undef ?_
  try simp only [nrm]
  refine tM 8 40 undef ?_
  try simp only [nrm]
  refine tM 9 41 undef ?_
  try simp only [nrm]
  refine tM 10 42 undef ?_
  try simp only [nrm]
  refine tM 11 43 undef ?_
  try simp only [nrm]
  refine tM 12 44 undef ?_
  try simp only [nrm]
  refine tM 13 45 undef ?_
  try simp only [nrm]
  refine tM 14 46 undef ?_
  try simp only [nrm]
  refine tM 15 47 undef ?_
  try simp only [nrm]
  refine tL 16 48 (.bool false) ?_ ?_
  ·intro wq hS
   go_simp
  try simp only [nrm]
  refine rdy 17 (fun K hK => ?_)
  go_simp
  refine (ak wz rp F.pm _ 12 _ HR_z.out).mono ?_
  rintro r w7 ⟨rfl, h1, h2⟩
  have HR_7 : Hid (RO _ _ _ _) := h1
  have HB_7 : Hid (But (fun i => i = rp) w w7) := HB_6.out.trans ((ac BB_z.out (fun i => i = rp)).trans h2 (fun i hi hx => hx)) (fun i _ hx => hx)
  have HM_7 : Hid (MD w7 B F M) := HM_z.out.ro HR_z.out h2
  have FR1_7 : Hid (RF w7 _) := FR1_z.out.ro HR_z.out h2
  have FR2_7 : Hid (RF w7 _) := FR2_z.out.ro HR_z.out h2
  clear h1 h2
  go_wp2_with fail
  refine hK.out _ _ (trivial) (fun hh_ => ?_)
  clear hK K
  try simp only [nrm]
  refine dN ?_
  clear hh_
  go_wp2_with fail
  refine Calls.mono (ak w7 rp F.pm _ 14 _ HR_7.out) ?_
  rintro r w8 ⟨rfl, h1, h2⟩
  have HR_8 : Hid (RO _ _ _ _) := h1
  have HB_8 : Hid (But (fun i => i = rp) w w8) := HB_7.out.trans h2 (fun i _ hx => hx)
  have HM_8 : Hid (MD w8 B F M) := HM_7.out.ro HR_7.out h2
  have FR1_8 : Hid (RF w8 _) := FR1_7.out.ro HR_7.out h2
  have FR2_8 : Hid (RF w8 _) := FR2_7.out.ro HR_7.out h2
  clear h1 h2 HR_7 HB_7 HM_7 FR1_7 FR2_7
  go_wp2_with fail
  refine bodyPost_end (v := .tuple #[]) (by simp [results, results120, go_sem]) rfl ?_
  refine ⟨rfl, ?_, HB_8.out⟩
  have H := HR_8.out
  rw [fE, ER2.out] at H
  unfold lendL
  rw [← ER1.out]
  exact H
 | some x =>
  obtain ⟨c, aq, ah⟩ := x
  rw [show pvR (some (c, aq, ah) : AR) = .pointer (some ⟨aq, 0, none⟩) from rfl]
  go_upto_region 5 with fail
  have BB_6 := hI_ (Below.refl w6.heap.size w6)
  refine wp_region_noPanic ?_
  refine wp_region_held_drew (S := fun V => (∃ z : Int, VA V rp [.pointer (some ⟨F.pm, 0, none⟩), .int .i64 z] 148) ∧ VA V aq (c.cells ah) 85) (by kernel_rfl) (⟨⟨_, VA.drew HR_6.out⟩, VA.drew FR1_6.out.1⟩) ?_
  intro hh_
  have bz := (Below.refl w6.heap.size w6).drew
  have HM_z := hI_ (HM_6.out.step bz)
  have HR_z := hI_ (HR_6.out.step bz)
  have FR1_z : Hid (RF _ _) := FR1_6.out.step bz
  have FR2_z : Hid (RF _ _) := FR2_6.out.step bz
  have BB_z := hI_ (BB_6.out.trans (bz.mono BB_6.out.size))
  generalize w6.drew = wz at *
  clear bz
  refine tL 0 32 (.pointer (some ⟨rp, 0, none⟩)) ?_ ?_
  ·intro wq hS
   go_simp
  try simp only [nrm]
  refine tL 1 33 (.pointer (some ⟨aq, 0, none⟩)) ?_ ?_
  ·intro wq hS
   go_simp
  try simp only [nrm]
  refine tL 2 34 (.bool true) ?_ ?_
  ·intro wq hS
   go_simp
  try simp only [nrm]
  refine tL 3 35 (.bool true) ?_ ?_
  ·intro wq hS
   go_simp
  try simp only [nrm]
  refine tL 4 36 (.int .i64 n) ?_ ?_
  ·intro wq hS
   go_simp
  try simp only [nrm]
  refine tL 5 37 (.pointer (some ⟨rp, 0, none⟩)) ?_ ?_
  ·intro wq hS
   go_simp
  try simp only [nrm]
  refine tL 6 38 (.pointer (some ⟨rp, 0, none⟩)) ?_ ?_
  ·intro wq hS
   go_simp
  try simp only [nrm]
  refine tL 7 39 (.pointer (some ⟨rp, 0, none⟩)) ?_ ?_
  ·intro wq hS
   go_simp
  try simp only [nrm]
  refine tL 8 40 (.pointer (some ⟨F.pm, 0, none⟩)) ?_ ?_
  ·intro wq hS
   obtain ⟨⟨z, hz⟩, _⟩ := hS
   have c := VA.cell hz 0 (v := .pointer (some ⟨F.pm, 0, none⟩)) rfl
   go_simp
  try simp only [nrm]
  refine tL 9 41 (.pointer (some ⟨aq, 0, none⟩)) ?_ ?_
  ·intro wq hS
   go_simp
  try simp only [nrm]
  refine tL 10 42 (.pointer (some ⟨aq, 0, none⟩)) ?_ ?_
  ·intro wq hS
   go_simp
  try simp only [nrm]
  refine tL 11 43 (.pointer (some ⟨aq, 0, none⟩)) ?_ ?_
  ·intro wq hS
   go_simp
  try simp only [nrm]
  refine tK 12 44 (.agg c.told.toArray) (by exact rfl) (yieldsIf_load_mid (by rfl) _ _ rfl _ _ rfl _ _ (fun wq hS => (fun j u hj => by rw [Nat.zero_add]; exact VA.cell hS.2 j (nx hj))) underlying36 rfl cw) ?_
  try simp only [nrm]
  clear hh_
  refine rdy 13 (fun K hK => ?_)
  go_simp
  refine Calls.mono (iz wz B F M HM_z.out c) ?_
  rintro e wv ⟨⟨v, rfl, o1⟩, bv⟩
  have HM_v := hI_ (HM_z.out.step bv)
  have HR_v := hI_ (HR_z.out.step bv)
  have FR1_v : Hid (RF _ _) := FR1_z.out.step bv
  have FR2_v : Hid (RF _ _) := FR2_z.out.step bv
  have BB_v := hI_ (BB_z.out.trans (bv.mono BB_z.out.size))
  clear o1 bv
  go_wp2_with fail
  refine hK.out _ _ (⟨⟨_, HR_v.out⟩, FR1_v.out.1⟩) (fun hh_ => ?_)
  try simp only [nrm]
  clear hK K
  refine tL 14 46 (.int .i64 (ver M c.prod).lim) ?_ ?_
  ·intro wq hS
   have c1 := qi (ver M c.prod) v wq
   go_simp
  try simp only [nrm]
  refine tL 15 47 (.bool (decide ((ver M c.prod).lim < n))) ?_ ?_
  ·intro wq hS
   go_simp
  try simp only [nrm]
  refine tL 16 48 (.bool (decide ((ver M c.prod).lim < n))) ?_ ?_
  ·intro wq hS
   go_simp
  try simp only [nrm]
  refine rdy 17 (fun K hK => ?_)
  go_simp
  refine (ak wv rp F.pm _ 12 _ HR_v.out).mono ?_
  rintro r w7 ⟨rfl, h1, h2⟩
  have HR_7 : Hid (RO _ _ _ _) := h1
  have HB_7 : Hid (But (fun i => i = rp) w w7) := HB_6.out.trans ((ac BB_v.out (fun i => i = rp)).trans h2 (fun i hi hx => hx)) (fun i _ hx => hx)
  have HM_7 : Hid (MD w7 B F M) := HM_v.out.ro HR_v.out h2
  have FR1_7 : Hid (RF w7 _) := FR1_v.out.ro HR_v.out h2
  have FR2_7 : Hid (RF w7 _) := FR2_v.out.ro HR_v.out h2
  clear h1 h2
  go_wp2_with fail
  refine hK.out _ _ (⟨⟨_, HR_7.out⟩, FR1_7.out.1⟩) (fun hh_ => ?_)
  clear hK K
  try simp only [nrm]
  refine dN ?_
  clear hh_
  have c5 := FR1_7.out.1.cell 5 (v := .int .i64 c.bal) rfl
  go_wp2_with fail
  refine Calls.mono (ak w7 rp F.pm _ 14 _ HR_7.out) ?_
  rintro r w8 ⟨rfl, h1, h2⟩
  have HR_8 : Hid (RO _ _ _ _) := h1
  have HB_8 : Hid (But (fun i => i = rp) w w8) := HB_7.out.trans h2 (fun i _ hx => hx)
  have HM_8 : Hid (MD w8 B F M) := HM_7.out.ro HR_7.out h2
  have FR1_8 : Hid (RF w8 _) := FR1_7.out.ro HR_7.out h2
  have FR2_8 : Hid (RF w8 _) := FR2_7.out.ro HR_7.out h2
  clear h1 h2 HR_7 HB_7 HM_7 FR1_7 FR2_7 c5
  go_wp2_with fail
  refine bodyPost_end (v := .tuple #[]) (by simp [results, results120, go_sem]) rfl ?_
  refine ⟨rfl, ?_, HB_8.out⟩
  have H := HR_8.out
  rw [fE, ER2.out] at H
  unfold lendL
  rw [← ER1.out]
  exact H
theorem ez (w : World) (n : Int) (hn : I64 n) :
  Calls prog 141 #[.int .i64 n] w fun e w' => e = .returned (.agg #[.int .i64 (dhi n), .int .u64 (dlo n), .int .i64 0]) ∧ Below w.heap.size w w' := by
 have B1 := (Below.refl w.heap.size w).alloc (Nat.le_refl _) (.cells #[.int .i64 0, .int .u64 0, .int .i64 0] 44)
 have V1 := aa w zdl 44
 go_enter func141, ntmps141
 go_wp2_with fail
 have e1 : n / 9223372036854775808 = dhi n := by unfold dhi; have := hn; unfold I64 at this; omega
 have e2 : IntKind.u64.wrap n = dlo n := by unfold dlo; simp [IntKind.wrap, IntKind.signed, IntKind.bits]
 refine bodyPost_ret (v := .agg #[.int .i64 (dhi n), .int .u64 (dlo n), .int .i64 0]) (by simp [results, results141, go_sem, e1, e2]) rfl ⟨rfl, ?_⟩
 exact (Below.refl w.heap.size w).alloc (Nat.le_refl _) _
def entL (cur d c n : Int) : List Ln := [⟨d, cur, dhi n, dlo n, 0⟩, ⟨c, cur, dhi (-n), dlo (-n), 0⟩]
def pstB (b : Int → Int → Int) (cur d c n : Int) : Int → Int → Int := if n = 0 then b else pst b (entL cur d c n)
def pstN (b : Int → Int → Int) (m cur d c n : Int) : Int := if n = 0 then m else pcnt b (entL cur d c n) m
theorem ip {α : Type} {K : Kd α} {w : World} {p : Nat} {xs : List α} {T : TypeId} (h : VA w p (K.cells xs) T) (hl : xs.length ≤ 9223372036854775807) : Sl K w (.slice (some ⟨p, 0, none⟩) xs.length xs.length) xs := by
 refine ⟨some ⟨p, 0, none⟩, xs.length, rfl, Nat.le_refl _, hl, fun _ => ⟨p, 0, rfl, h.lt, fun i x hi j u hj => ?_⟩⟩
 rw [Nat.zero_add]
 refine h.cell _ ?_
 rw [K.cells_get xs i x hi j (by rw [← K.len x]; exact (List.getElem?_eq_some_iff.1 hj).1)]
 exact hj
theorem s5 {o : Oper} {y : Nat → Option Bool} {a : Act} {w : World} {K : Act → World → Prop} {Q : Exit → Act → World → Prop} {k0 : Prop} (h : Region.wanted o y = true) (k : o.wp prog a w K Q) : if Region.wanted o y = true then o.wp prog a w K Q else k0 := by
 rw [if_pos h]
 exact k
def ZLn : Value := .agg #[.int .i64 0, .int .i64 0, .int .i64 0, .int .u64 0, .int .i64 0]
theorem xF (x y : Ln) : Instr.fill (fun i => some (i * 5, 5)) ((Array.range (2 * 5)).map (ZLn.cells[· % ZLn.cells.size]!)) [(0, Value.agg x.enc.toArray), (1, Value.agg y.enc.toArray)] = some (LN.cells [x, y]).toArray := by kernel_rfl
theorem xh {w : World} {o : Oper} {a : Act} {K : Act → World → Prop} {Q : Exit → Act → World → Prop} (z1 z2 : Operand) (ho : o.op = .buildSlice 46 2 #[(0, z1), (1, z2)]) (x y : Ln) (h1 : a.eval z1 = .agg x.enc.toArray) (h2 : a.eval z2 = .agg y.enc.toArray)
  (h : K (a.put o.dst (.slice (some ⟨w.heap.size, 0, none⟩) 2 2)) (w.alloc (.cells (LN.cells [x, y]).toArray 91))) : o.wp prog a w K Q := by
 obtain ⟨i0, hi, hz⟩ := Option.map_eq_some_iff.1 mb
 simp only [Prod.mk.injEq] at hz
 refine wp_buildSlice 46 91 2 _ ho _ i0 ZLn underlying46 hi hz.1 (by rw [hz.2.1]; decide) (by rw [hz.2.1]; decide) ?_ h
 rw [hz.2.1]
 simp only [List.map_toArray, List.map_cons, List.map_nil, h1, h2]
 exact xF x y
theorem sV {cur d c n : Int} (hu : I64 cur) (hd : I64 d) (hc : I64 c) (hn : I64 n) (hn' : I64 (-n)) : ∀ x ∈ entL cur d c n, x.wf := by
 have k : ∀ z, I64 z → (Lit.int .i64 (dhi z)).wf = true ∧ (Lit.int .u64 (dlo z)).wf = true := fun z hz => by
  unfold I64 at hz
  refine ⟨?_, ?_⟩
  ·unfold dhi; simp [Lit.wf, IntKind.min, IntKind.max, IntKind.signed, IntKind.bits]; omega
  ·unfold dlo; simp [Lit.wf, IntKind.min, IntKind.max, IntKind.signed, IntKind.bits]; omega
 intro x hx
 unfold entL at hx
 simp only [List.mem_cons, List.not_mem_nil, or_false] at hx
 rcases hx with rfl | rfl
 ·exact ⟨hd, hu, (k n hn).1, (k n hn).2, by show (_ : Int) ≤ 0; decide, by show (0 : Int) ≤ _; decide⟩
 ·exact ⟨hc, hu, (k _ hn').1, (k _ hn').2, by show (_ : Int) ≤ 0; decide, by show (0 : Int) ≤ _; decide⟩
theorem lV (cur d c n : Int) : (entL cur d c n).length = 2 := rfl
theorem i9 (w : World) (B : Nat) (F : FB) (M : PM) (h : MD w B F M) (T : TBL w) (cur d c n : Int) (hu : I64 cur) (hd : I64 d) (hc : I64 c) (n1 : -10000000000000 ≤ n) (n2 : n ≤ 10000000000000) (hm : 0 ≤ M.n ∧ M.n ≤ 4611686018427387904) :
  Calls prog 134 #[.pointer (some ⟨F.pm, 0, none⟩), .int .i64 cur, .int .i64 d, .int .i64 c, .int .i64 n] w fun e w' => e = .returned (.tuple #[]) ∧ MD w' B F { M with b := pstB M.b cur d c n, n := pstN M.b M.n cur d c n } ∧ But (fun i => i = F.pl ∨ i = F.ml) w w' := by
 have HN : Hid (I64 n ∧ I64 (-n)) := ⟨by unfold I64; omega, by unfold I64; omega⟩
 have HW := hI_ (sV hu hd hc HN.out.1 HN.out.2)
 have HC := hI_ hm
 have HM_ : Hid (MD w B F M) := h
 have HT_ : Hid (TBL w) := T
 have BB_ := hI_ (Below.refl w.heap.size w)
 clear hu hd hc h T hm
 by_cases h0 : n = 0
 ·subst h0
  go_enter func134, ntmps134
  go_wp2_with fail
  refine bodyPost_ret (v := .tuple #[]) (by simp [results, results134, go_sem]) rfl ⟨rfl, ?_, ac BB_.out _⟩
  exact HM_.out
 ·have hz : (n = 0) = False := by simp [h0]
  go_enter func134, ntmps134
  go_upto_region 1 with fail
  refine wp_region_noPanic ?_
  refine wp_region_held_drew (S := fun V => VA V F.pm (mcells F M) 100) (by kernel_rfl) (VA.drew HM_.out.va) ?_
  intro hh_
  have bk := (Below.refl w.heap.size w).drew
  have HM_k := hI_ (HM_.out.step bk)
  have HT_k := hI_ (HT_.out.step bk)
  have BB_k := hI_ (BB_.out.trans (bk.mono BB_.out.size))
  generalize w.drew = wk at *
  clear bk
  refine tL 0 12 (.pointer (some ⟨F.pm, 0, none⟩)) ?_ ?_
  ·intro wq hS
   go_simp
  try simp only [nrm]
  refine tL 1 13 (.pointer (some ⟨F.pm, 0, none⟩)) ?_ ?_
  ·intro wq hS
   go_simp
  try simp only [nrm]
  refine tL 2 14 (.pointer (some ⟨F.pm, 4, none⟩)) ?_ ?_
  ·intro wq hS
   go_simp
  try simp only [nrm]
  refine tL 3 15 (.pointer (some ⟨F.pl, 0, none⟩)) ?_ ?_
  ·intro wq hS
   have c := VA.cell hS 4 (v := .pointer (some ⟨F.pl, 0, none⟩)) rfl
   go_simp
  try simp only [nrm]
  refine tL 4 16 (.int .i64 d) ?_ ?_
  ·intro wq hS
   go_simp
  try simp only [nrm]
  refine tL 5 17 (.int .i64 cur) ?_ ?_
  ·intro wq hS
   go_simp
  try simp only [nrm]
  refine tL 6 18 (.int .i64 n) ?_ ?_
  ·intro wq hS
   go_simp
  try simp only [nrm]
  refine tL 9 21 (.int .i64 c) ?_ ?_
  ·intro wq hS
   go_simp
  try simp only [nrm]
  refine tL 10 22 (.int .i64 cur) ?_ ?_
  ·intro wq hS
   go_simp
  try simp only [nrm]
  refine tL 11 23 (.int .i64 n) ?_ ?_
  ·intro wq hS
   go_simp
  try simp only [nrm]
  refine tL 12 24 (.int .i64 (-n)) ?_ ?_
  ·intro wq hS
   go_simp
   rw [IntKind.wrap_i64]; omega
  try simp only [nrm]
  clear hh_
  refine rdy 7 (fun K hK => ?_)
  go_simp
  refine Calls.mono (ez wk n HN.out.1) ?_
  rintro e wa ⟨rfl, ba⟩
  have HM_a := hI_ (HM_k.out.step ba)
  have HT_a := hI_ (HT_k.out.step ba)
  have BB_a := hI_ (BB_k.out.trans (ba.mono BB_k.out.size))
  clear ba
  go_wp2_with fail
  refine hK.out _ _ (HM_a.out.va) (fun hh_ => ?_)
  try simp only [nrm]
  clear hK K
  refine tL 8 20 (.agg #[.int .i64 d, .int .i64 cur, .int .i64 (dhi n), .int .u64 (dlo n), .int .i64 0]) ?_ ?_
  ·intro wq hS
   go_simp
  try simp only [nrm]
  clear hh_
  refine rdy 13 (fun K hK => ?_)
  go_simp
  refine Calls.mono (ez wa (-n) HN.out.2) ?_
  rintro e wc ⟨rfl, bc⟩
  have HM_c := hI_ (HM_a.out.step bc)
  have HT_c := hI_ (HT_a.out.step bc)
  have BB_c := hI_ (BB_a.out.trans (bc.mono BB_a.out.size))
  clear bc
  go_wp2_with fail
  refine hK.out _ _ (HM_c.out.va) (fun hh_ => ?_)
  try simp only [nrm]
  clear hK K
  refine tL 14 26 (.agg #[.int .i64 c, .int .i64 cur, .int .i64 (dhi (-n)), .int .u64 (dlo (-n)), .int .i64 0]) ?_ ?_
  ·intro wq hS
   go_simp
  try simp only [nrm]
  clear hh_
  refine rdy 15 (fun K hK => ?_)
  refine s5 (by rfl) (xh _ _ rfl ⟨d, cur, dhi n, dlo n, 0⟩ ⟨c, cur, dhi (-n), dlo (-n), 0⟩ (by rfl) (by rfl) ?_)
  have bd := (Below.refl wc.heap.size wc).alloc (Nat.le_refl _) (.cells (LN.cells (entL cur d c n)).toArray 91)
  have HS_d := hI_ (ip (K := LN) (xs := entL cur d c n) (aa wc (LN.cells (entL cur d c n)) 91) (by rw [lV]; decide))
  have HM_d := hI_ (HM_c.out.step bd)
  have HT_d := hI_ (HT_c.out.step bd)
  have BB_d := hI_ (BB_c.out.trans (bd.mono BB_c.out.size))
  clear bd
  rw [show LN.cells [(⟨d, cur, dhi n, dlo n, 0⟩ : Ln), ⟨c, cur, dhi (-n), dlo (-n), 0⟩] = LN.cells (entL cur d c n) from rfl]
  rw [lV] at HS_d
  generalize wc.alloc (.cells (LN.cells (entL cur d c n)).toArray 91) = wd at *
  generalize wc.heap.size = q at *
  refine hK.out _ _ HM_d.out.va (fun hh_ => ?_)
  try simp only [nrm]
  clear hK K hh_
  refine rdy 16 (fun K hK => ?_)
  go_simp
  refine Calls.mono (jG F.pl F.ml M.b M.n _ (entL cur d c n) wd HM_d.out.led HS_d.out HW.out HT_d.out.lim HC.out) ?_
  rintro e we ⟨rfl, hL, kB⟩
  have HM_e : Hid (MD we B F { M with b := pst M.b (entL cur d c n), n := pcnt M.b (entL cur d c n) M.n }) := HM_d.out.setL kB hL
  have KB : Hid (But (fun i => i = F.pl ∨ i = F.ml) w we) := (ac BB_d.out _).trans kB (fun _ _ hx => hx)
  clear hL kB
  go_wp2_with fail
  refine hK.out _ _ HM_e.out.va (fun hh_ => ?_)
  try simp only [nrm]
  clear hK K
  refine dN ?_
  clear hh_
  go_wp2_with fail
  refine bodyPost_end (v := .tuple #[]) (by simp [results, results134, go_sem]) rfl ⟨rfl, ?_, KB.out⟩
  unfold pstB pstN
  rw [if_neg h0, if_neg h0]
  exact HM_e.out
def setB (a : PA) (v : Int) : PA := { a with bal := v }
theorem PA.wf.setB {a : PA} (h : a.wf) {v : Int} (h1 : -10000000000000 ≤ v) (h2 : v ≤ 10000000000000) : (setB a v).wf := ⟨h.id, h.prod, h.cur, h.kind, ⟨h1, h2⟩, h.held, h.acc, h.hs, h.hl, h.hv, h.sum⟩
theorem IsA.set {F : FB} {M : PM} {i : Nat} {a b : PA} {x : Nat × Nat} (h : IsA F M i a x) : IsA F { M with al := M.al.set i b } i b x := ⟨by show (M.al.set i b)[i]? = some b; rw [List.getElem?_set_self (List.getElem?_eq_some_iff.1 h.a).1], h.x⟩
theorem IsA.other {F : FB} {M : PM} {i j : Nat} {a b : PA} {x : Nat × Nat} (h : IsA F M j a x) (hij : i ≠ j) : IsA F { M with al := M.al.set i b } j a x := ⟨by show (M.al.set i b)[j]? = some a; rw [List.getElem?_set_ne hij]; exact h.a, h.x⟩
theorem MD.awf {w : World} {B : Nat} {F : FB} {M : PM} (h : MD w B F M) {i : Nat} {a : PA} {x : Nat × Nat} (hi : IsA F M i a x) : a.wf := h.wf.acs a (List.mem_of_getElem? hi.a)
theorem MD.aw {w : World} {B : Nat} {F : FB} {M : PM} (h : MD w B F M) {i : Nat} {a : PA} {x : Nat × Nat} (hi : IsA F M i a x) : VA w x.1 (a.cells x.2) 85 := (h.acs i a x hi.a hi.x).1
theorem MD.setB {w : World} {B : Nat} {F : FB} {M : PM} (h : MD w B F M) {i : Nat} {a : PA} {x : Nat × Nat} (hi : IsA F M i a x) {v : Int} (h1 : -10000000000000 ≤ v) (h2 : v ≤ 10000000000000) : MD (w.setCell ⟨x.1, 5, none⟩ (.int .i64 v)) B F { M with al := M.al.set i (setB a v) } :=
 h.setA1 hi (au w x.1 5 _) ((h.aw hi).set 5 (.int .i64 v)) rfl ((h.awf hi).setB h1 h2) rfl
theorem I64.s {n : Int} (h1 : -10000000000000 ≤ n) (h2 : n ≤ 10000000000000) : I64 n := ⟨by omega, by omega⟩
theorem MD.hi {w : World} {B : Nat} {F : FB} {M : PM} (h : MD w B F M) {i : Nat} {x : Nat × Nat} (hx : F.ab[i]? = some x) : B ≤ x.1 ∧ B ≤ x.2 := h.low.2.2.2.2.2 x (List.mem_of_getElem? hx)
def cashM (M : PM) (i : Nat) (a : PA) (n : Int) : PM := { M with al := M.al.set i (setB a (a.bal + n)), b := pstB M.b a.cur 1 2 n, n := pstN M.b M.n a.cur 1 2 n }
def twoM (M : PM) (i : Nat) (a : PA) (v : Int) (j : Nat) (b : PA) (u : Int) (d c n : Int) : PM := { M with al := (M.al.set i (setB a v)).set j (setB b u), b := pstB M.b a.cur d c n, n := pstN M.b M.n a.cur d c n }
theorem kH (w : World) (B : Nat) (F : FB) (M : PM) (h : MD w B F M) (T : TBL w) (hB : 6 ≤ B) (i : Nat) (a : PA) (x : Nat × Nat) (hi : IsA F M i a x) (n : Int) (n1 : -10000000000000 ≤ n) (n2 : n ≤ 10000000000000) (v1 : -10000000000000 ≤ a.bal + n) (v2 : a.bal + n ≤ 10000000000000) (hm : 0 ≤ M.n ∧ M.n ≤ 4611686018427387904) :
  Calls prog 86 #[.pointer (some ⟨F.pm, 0, none⟩), .pointer (some ⟨x.1, 0, none⟩), .int .i64 n] w fun e w' => e = .returned (.tuple #[]) ∧ MD w' B F (cashM M i a n) ∧ But (fun j => j = F.pl ∨ j = F.ml ∨ j = x.1) w w' := by
 have HA := hI_ (h.awf hi)
 have bb1 := HA.out.bal.1
 have bb2 := HA.out.bal.2
 have HM_0 : Hid (MD w B F M) := h
 have HT_0 : Hid (TBL w) := T
 have HI : Hid (IsA F M i a x) := hi
 have HL : Hid (B ≤ x.1 ∧ B ≤ x.2) := h.hi hi.x
 have HC := hI_ hm
 have HBB : Hid (6 ≤ B) := hB
 clear h T hi hm hB
 go_enter func86, ntmps86
 have c5 := (HM_0.out.aw HI.out).cell 5 (v := .int .i64 a.bal) rfl
 have f5 := (HM_0.out.aw HI.out).free 5
 have hbk := (HM_0.out.aw HI.out).blk
 have HM_1 := hI_ (HM_0.out.setB HI.out (v := a.bal + n) v1 v2)
 have HU_1 := hI_ ((au w x.1 5 (.int .i64 (a.bal + n))).but)
 go_upto_region 1 with fail
 generalize hW : w.setCell ⟨x.1, 5, none⟩ (.int .i64 (a.bal + n)) = w1 at *
 clear hW c5 f5 hbk
 have HT_1 : Hid (TBL w1) := HT_0.out.but HU_1.out (fun j hj => by have := HL.out.1; have := HBB.out; omega)
 have c2 := (HM_1.out.aw (IsA.set HI.out)).cell 2 (v := .int .i64 a.cur) rfl
 go_wp2_with fail
 refine (i9 w1 B F _ HM_1.out HT_1.out a.cur 1 2 n (I64.s (by have := HA.out.cur; omega) (by have := HA.out.cur; omega)) (I64.s (by decide) (by decide)) (I64.s (by decide) (by decide)) n1 n2 HC.out).mono ?_
 rintro e w2 ⟨rfl, hM, hb⟩
 have HM_2 := hI_ hM
 have HU_2 : Hid (But (fun j => j = F.pl ∨ j = F.ml ∨ j = x.1) w w2) := (HU_1.out.mono (fun j hj => Or.inr (Or.inr hj))).trans hb (fun j _ hj => hj.elim Or.inl (fun e => Or.inr (Or.inl e)))
 clear hM hb c2
 go_wp2_with fail
 exact bodyPost_end (v := .tuple #[]) (by simp [results, results86, go_sem]) rfl ⟨rfl, HM_2.out, HU_2.out⟩
theorem jA (w : World) (B : Nat) (F : FB) (M : PM) (h : MD w B F M) (T : TBL w) (hB : 6 ≤ B) (i j : Nat) (a b : PA) (x y : Nat × Nat) (hi : IsA F M i a x) (hj : IsA F M j b y) (hij : i ≠ j) (n : Int) (n1 : -10000000000000 ≤ n) (n2 : n ≤ 10000000000000) (v1 : -10000000000000 ≤ a.bal - n) (v2 : a.bal - n ≤ 10000000000000) (u1 : -10000000000000 ≤ b.bal + n) (u2 : b.bal + n ≤ 10000000000000) (hm : 0 ≤ M.n ∧ M.n ≤ 4611686018427387904) :
  Calls prog 87 #[.pointer (some ⟨F.pm, 0, none⟩), .pointer (some ⟨x.1, 0, none⟩), .pointer (some ⟨y.1, 0, none⟩), .int .i64 n] w fun e w' => e = .returned (.tuple #[]) ∧ MD w' B F (twoM M i a (a.bal - n) j b (b.bal + n) 2 2 n) ∧ But (fun j => j = F.pl ∨ j = F.ml ∨ j = x.1 ∨ j = y.1) w w' := by
 have HA := hI_ (h.awf hi)
 have bb1 := HA.out.bal.1
 have bb2 := HA.out.bal.2
 have HM_0 : Hid (MD w B F M) := h
 have HT_0 : Hid (TBL w) := T
 have HI : Hid (IsA F M i a x) := hi
 have HL : Hid (B ≤ x.1 ∧ B ≤ x.2) := h.hi hi.x
 have HC := hI_ hm
 have HBB : Hid (6 ≤ B) := hB
 have HJ : Hid (IsA F M j b y) := hj
 have HIJ : Hid (i ≠ j) := hij
 have HLJ : Hid (B ≤ y.1 ∧ B ≤ y.2) := h.hi hj.x
 have HAJ := hI_ (h.awf hj)
 have bc1 := HAJ.out.bal.1
 have bc2 := HAJ.out.bal.2
 clear h T hi hj hij hm hB
 go_enter func87, ntmps87
 have c5 := (HM_0.out.aw HI.out).cell 5 (v := .int .i64 a.bal) rfl
 have f5 := (HM_0.out.aw HI.out).free 5
 have hbk := (HM_0.out.aw HI.out).blk
 have HM_1 := hI_ (HM_0.out.setB HI.out (v := a.bal - n) v1 v2)
 have HU_1 := hI_ ((au w x.1 5 (.int .i64 (a.bal - n))).but)
 go_upto_region 1 with fail
 generalize hW : w.setCell ⟨x.1, 5, none⟩ (.int .i64 (a.bal - n)) = w1 at *
 clear hW c5 f5 hbk
 have HT_1 : Hid (TBL w1) := HT_0.out.but HU_1.out (fun j hj => by have := HL.out.1; have := HBB.out; omega)
 have HJ1 := hI_ (HJ.out.other HIJ.out (b := setB a (a.bal - n)))
 have HI1 := hI_ (HI.out.set (b := setB a (a.bal - n)))
 have c5 := (HM_1.out.aw HJ1.out).cell 5 (v := .int .i64 b.bal) rfl
 have f5 := (HM_1.out.aw HJ1.out).free 5
 have hbk := (HM_1.out.aw HJ1.out).blk
 have HM_2 := hI_ (HM_1.out.setB HJ1.out (v := b.bal + n) u1 u2)
 have HU_2 := hI_ ((au w1 y.1 5 (.int .i64 (b.bal + n))).but)
 go_upto_region 2 with fail
 generalize hW : w1.setCell ⟨y.1, 5, none⟩ (.int .i64 (b.bal + n)) = w2 at *
 clear hW c5 f5 hbk
 have HT_2 : Hid (TBL w2) := HT_1.out.but HU_2.out (fun j hj => by have := HLJ.out.1; have := HBB.out; omega)
 have c2 := (HM_2.out.aw (IsA.other HI1.out (fun e => HIJ.out e.symm))).cell 2 (v := .int .i64 a.cur) rfl
 go_wp2_with fail
 refine (i9 w2 B F _ HM_2.out HT_2.out a.cur 2 2 n (I64.s (by have := HA.out.cur; omega) (by have := HA.out.cur; omega)) (I64.s (by decide) (by decide)) (I64.s (by decide) (by decide)) n1 n2 HC.out).mono ?_
 rintro e w3 ⟨rfl, hM, hb⟩
 have HM_3 := hI_ hM
 have HU_3 : Hid (But (fun j => j = F.pl ∨ j = F.ml ∨ j = x.1 ∨ j = y.1) w w3) := ((HU_1.out.mono (fun j hj => Or.inr (Or.inr (Or.inl hj)))).trans HU_2.out (fun j _ hj => Or.inr (Or.inr (Or.inr hj)))).trans hb (fun j _ hj => hj.elim Or.inl (fun e => Or.inr (Or.inl e)))
 clear hM hb c2
 go_wp2_with fail
 exact bodyPost_end (v := .tuple #[]) (by simp [results, results87, go_sem]) rfl ⟨rfl, HM_3.out, HU_3.out⟩
theorem kK (w : World) (B : Nat) (F : FB) (M : PM) (h : MD w B F M) (T : TBL w) (hB : 6 ≤ B) (i j : Nat) (a b : PA) (x y : Nat × Nat) (hi : IsA F M i a x) (hj : IsA F M j b y) (hij : i ≠ j) (n : Int) (n1 : -10000000000000 ≤ n) (n2 : n ≤ 10000000000000) (v1 : -10000000000000 ≤ a.bal + n) (v2 : a.bal + n ≤ 10000000000000) (u1 : -10000000000000 ≤ b.bal + n) (u2 : b.bal + n ≤ 10000000000000) (hm : 0 ≤ M.n ∧ M.n ≤ 4611686018427387904) :
  Calls prog 90 #[.pointer (some ⟨F.pm, 0, none⟩), .pointer (some ⟨x.1, 0, none⟩), .pointer (some ⟨y.1, 0, none⟩), .int .i64 n] w fun e w' => e = .returned (.tuple #[]) ∧ MD w' B F (twoM M i a (a.bal + n) j b (b.bal + n) 3 2 n) ∧ But (fun j => j = F.pl ∨ j = F.ml ∨ j = x.1 ∨ j = y.1) w w' := by
 have HA := hI_ (h.awf hi)
 have bb1 := HA.out.bal.1
 have bb2 := HA.out.bal.2
 have HM_0 : Hid (MD w B F M) := h
 have HT_0 : Hid (TBL w) := T
 have HI : Hid (IsA F M i a x) := hi
 have HL : Hid (B ≤ x.1 ∧ B ≤ x.2) := h.hi hi.x
 have HC := hI_ hm
 have HBB : Hid (6 ≤ B) := hB
 have HJ : Hid (IsA F M j b y) := hj
 have HIJ : Hid (i ≠ j) := hij
 have HLJ : Hid (B ≤ y.1 ∧ B ≤ y.2) := h.hi hj.x
 have HAJ := hI_ (h.awf hj)
 have bc1 := HAJ.out.bal.1
 have bc2 := HAJ.out.bal.2
 clear h T hi hj hij hm hB
 go_enter func90, ntmps90
 have c5 := (HM_0.out.aw HI.out).cell 5 (v := .int .i64 a.bal) rfl
 have f5 := (HM_0.out.aw HI.out).free 5
 have hbk := (HM_0.out.aw HI.out).blk
 have HM_1 := hI_ (HM_0.out.setB HI.out (v := a.bal + n) v1 v2)
 have HU_1 := hI_ ((au w x.1 5 (.int .i64 (a.bal + n))).but)
 go_upto_region 1 with fail
 generalize hW : w.setCell ⟨x.1, 5, none⟩ (.int .i64 (a.bal + n)) = w1 at *
 clear hW c5 f5 hbk
 have HT_1 : Hid (TBL w1) := HT_0.out.but HU_1.out (fun j hj => by have := HL.out.1; have := HBB.out; omega)
 have HJ1 := hI_ (HJ.out.other HIJ.out (b := setB a (a.bal + n)))
 have HI1 := hI_ (HI.out.set (b := setB a (a.bal + n)))
 have c5 := (HM_1.out.aw HJ1.out).cell 5 (v := .int .i64 b.bal) rfl
 have f5 := (HM_1.out.aw HJ1.out).free 5
 have hbk := (HM_1.out.aw HJ1.out).blk
 have HM_2 := hI_ (HM_1.out.setB HJ1.out (v := b.bal + n) u1 u2)
 have HU_2 := hI_ ((au w1 y.1 5 (.int .i64 (b.bal + n))).but)
 go_upto_region 2 with fail
 generalize hW : w1.setCell ⟨y.1, 5, none⟩ (.int .i64 (b.bal + n)) = w2 at *
 clear hW c5 f5 hbk
 have HT_2 : Hid (TBL w2) := HT_1.out.but HU_2.out (fun j hj => by have := HLJ.out.1; have := HBB.out; omega)
 have c2 := (HM_2.out.aw (IsA.other HI1.out (fun e => HIJ.out e.symm))).cell 2 (v := .int .i64 a.cur) rfl
 go_wp2_with fail
 refine (i9 w2 B F _ HM_2.out HT_2.out a.cur 3 2 n (I64.s (by have := HA.out.cur; omega) (by have := HA.out.cur; omega)) (I64.s (by decide) (by decide)) (I64.s (by decide) (by decide)) n1 n2 HC.out).mono ?_
 rintro e w3 ⟨rfl, hM, hb⟩
 have HM_3 := hI_ hM
 have HU_3 : Hid (But (fun j => j = F.pl ∨ j = F.ml ∨ j = x.1 ∨ j = y.1) w w3) := ((HU_1.out.mono (fun j hj => Or.inr (Or.inr (Or.inl hj)))).trans HU_2.out (fun j _ hj => Or.inr (Or.inr (Or.inr hj)))).trans hb (fun j _ hj => hj.elim Or.inl (fun e => Or.inr (Or.inl e)))
 clear hM hb c2
 go_wp2_with fail
 exact bodyPost_end (v := .tuple #[]) (by simp [results, results90, go_sem]) rfl ⟨rfl, HM_3.out, HU_3.out⟩
end Go.Proofs.YtjkiplndbcmmbaaGreatDoor