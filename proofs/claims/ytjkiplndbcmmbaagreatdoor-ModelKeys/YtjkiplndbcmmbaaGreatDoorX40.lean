/- texts of the model: Mqe Mqf Moq Mor Mqh Mqi -/
import Derived.Test.YtjkiplndbcmmbaaGreatDoorX39
import Derived.Test.YtjkiplndbcmmbaaGreatDoorX37
import Derived.Test.YtjkiplndbcmmbaaGreatDoorX38
set_option linter.unusedVariables false
set_option linter.unusedSimpArgs false
set_option maxHeartbeats 16000000
namespace Go.Proofs.YtjkiplndbcmmbaaGreatDoor
open Go.RowKit Go.Maps
def newA (M : PM) (id p : Int) : PA := ⟨id, p, (ver M p).cur, (ver M p).kind, true, 0, 0, 0, []⟩
set_option maxRecDepth 100000 in
theorem ph (w : World) (B : Nat) (F : FB) (M : PM) (h : MD w B F M) (id p : Int) (hi : I64 id) (hpl : plc M.al id = M.al.length) (hw : (newA M id p).wf) (hids : ∀ b ∈ M.al, b.id < id) (hl : M.al.length < 256) :
  Calls Tryz.prog 85 #[.pointer (some ⟨F.pm, 0, none⟩), .int .i64 id, .int .i64 p] w fun e w' => ∃ v q hb, e = .returned (.tuple #[]) ∧ MD w' B (F.more v q hb) { M with al := M.al ++ [newA M id p] } ∧ But (fun j => j = F.pm ∨ F.sv.ownBlock = some j) w w' ∧ w.heap.size ≤ q ∧ w.heap.size ≤ hb := by
 obtain ⟨er, her⟩ : ∃ er : Int, er = if (verO M p).isSome then 0 else 7 := ⟨_, rfl⟩
 have HER : Hid (er = if (verO M p).isSome then 0 else 7) := her
 have HM_ : Hid (MD w B F M) := h
 have BB_ := hI_ (Below.refl w.heap.size w)
 have HPL := hI_ hpl
 have HWF := hI_ hw
 have HIDS := hI_ hids
 have HLL := hI_ hl
 clear h her hpl hw hids hl
 go_enter Tryz.func85, Tryz.ntmps85
 go_upto_region 0 with fail
 refine wp_region_noPanic ?_
 refine wp_region_held_drew (S := fun V => VA V F.pm (mcells F M) 100) (by kernel_rfl) (HM_.out.va.drew) ?_
 intro hHeld
 have bz := (Below.refl w.heap.size w).drew
 have HM_z := hI_ (HM_.out.step bz)
 have BB_z := hI_ (BB_.out.trans (bz.mono BB_.out.size))
 generalize w.drew = wz at *
 clear bz
 refine tK 0 12 (.pointer (some ⟨F.pm, 0, none⟩)) (by exact rfl) (Or.inl ⟨by rfl, ?_⟩) ?_
 ·intro wq hS
  go_simp
 try simp only [nrm]
 refine tK 1 13 (.pointer (some ⟨F.pm, 0, none⟩)) (by exact rfl) (Or.inl ⟨by rfl, ?_⟩) ?_
 ·intro wq hS
  go_simp
 try simp only [nrm]
 refine tK 2 14 (.pointer (some ⟨F.pm, 1, none⟩)) (by exact rfl) (Or.inl ⟨by rfl, ?_⟩) ?_
 ·intro wq hS
  go_simp
 try simp only [nrm]
 refine tK 3 15 (.pointer (some ⟨F.pc, 0, none⟩)) (by exact rfl) (Or.inl ⟨by rfl, ?_⟩) ?_
 ·intro wq hS
  have c := VA.cell hS 1 (v := .pointer (some ⟨F.pc, 0, none⟩)) rfl
  go_simp
 try simp only [nrm]
 refine tK 4 16 (.int .i64 p) (by exact rfl) (Or.inl ⟨by rfl, ?_⟩) ?_
 ·intro wq hS
  go_simp
 try simp only [nrm]
 refine tK 5 17 (.pointer (some ⟨F.pm, 0, none⟩)) (by exact rfl) (Or.inl ⟨by rfl, ?_⟩) ?_
 ·intro wq hS
  go_simp
 try simp only [nrm]
 refine tK 6 18 (.pointer (some ⟨F.pm, 0, none⟩)) (by exact rfl) (Or.inl ⟨by rfl, ?_⟩) ?_
 ·intro wq hS
  go_simp
 try simp only [nrm]
 refine tK 7 19 (.pointer (some ⟨F.pm, 0, none⟩)) (by exact rfl) (Or.inl ⟨by rfl, ?_⟩) ?_
 ·intro wq hS
  go_simp
 try simp only [nrm]
 refine tK 8 20 (.int .i64 M.day) (by exact rfl) (Or.inl ⟨by rfl, ?_⟩) ?_
 ·intro wq hS
  have c := VA.cell hS 0 (v := .int .i64 M.day) rfl
  go_simp
 try simp only [nrm]
 clear hHeld
 refine wpAnyH_ready (rs := [9, 13]) (by kernel_rfl) (by simp) ?_
 refine AllReadyH.cons (by exact rfl) (fun K hK => ?_) (AllReadyH.cons (by exact rfl) (fun K hK => ?_) AllReadyH.nil)
 ·go_simp
  refine Calls.mono (de wz B F M HM_z.out p) ?_
  rintro e wa ⟨⟨v, rfl, o1⟩, ba⟩
  have HM_a := hI_ (HM_z.out.step ba)
  have BB_a := hI_ (BB_z.out.trans (ba.mono BB_z.out.size))
  rw [← HER.out]
  have OF : Hid (∃ a n c, v = .slice a n c) := by obtain ⟨a, c, e, _⟩ := o1.tr.form; exact ⟨a, _, c, e⟩
  clear o1
  clear ba
  go_wp2_with fail
  refine hK.out _ _ (HM_a.out.va) (fun hHeld => ?_)
  try simp only [nrm]
  clear hK K
  refine tK 10 11 (.tuple #[.agg ((ver M p).cells v).toArray, .int .i64 er]) (by exact rfl) (Or.inl ⟨by rfl, ?_⟩) ?_
  ·intro wq hS
   go_simp
  try simp only [nrm]
  refine tK 11 22 (.agg ((ver M p).cells v).toArray) (by exact rfl) (Or.inl ⟨by rfl, ?_⟩) ?_
  ·intro wq hS
   go_simp
  try simp only [nrm]
  refine tK 12 23 (.int .i64 er) (by exact rfl) (Or.inl ⟨by rfl, ?_⟩) ?_
  ·intro wq hS
   go_simp
  try simp only [nrm]
  clear hHeld
  refine rdy 13 (fun K hK => ?_)
  go_simp
  have bb := (Below.refl wa.heap.size wa).alloc (Nat.le_refl _) (.cells #[.int .i64 0, .int .i64 0, .int .i64 0, .int .i64 0, .int .i64 0, .int .i64 0, .int .i64 0, .int .i64 0, .slice none 0 0] 162)
  have HM_b := hI_ (HM_a.out.step bb)
  have BB_b := hI_ (BB_a.out.trans (bb.mono BB_a.out.size))
  have HN_b := hI_ (aa wa ([.int .i64 0, .int .i64 0, .int .i64 0, .int .i64 0, .int .i64 0, .int .i64 0, .int .i64 0, .int .i64 0, .slice none 0 0] : List Value) 162)
  have QLqn : Hid (w.heap.size ≤ wa.heap.size) := BB_a.out.size
  refine hK.out _ _ (HM_b.out.va) (fun hHeld => ?_)
  try simp only [nrm]
  clear hK K bb
  generalize wa.alloc (.cells #[.int .i64 0, .int .i64 0, .int .i64 0, .int .i64 0, .int .i64 0, .int .i64 0, .int .i64 0, .int .i64 0, .slice none 0 0] 162) = wb at *
  generalize wa.heap.size = qn at *
  refine rdy 14 (fun K hK => ?_)
  refine eC (by rfl) rfl 162 _ _ rfl qn (by rfl) ([.int .i64 0, .int .i64 0, .int .i64 0, .int .i64 0, .int .i64 0, .int .i64 0, .int .i64 0, .int .i64 0, .slice none 0 0]) ((ver M p).cells v) (by rfl) 162 HN_b.out infoP rfl (bI _ OF.out) ?_
  intro wf vf uf
  have hfo : ∀ i, i = qn → Fo wb i := fun i hi => by rw [hi]; exact dO HN_b.out (by decide)
  have HM_2 : Hid (MD wf B F M) := HM_b.out.but uf.but hfo
  have HP_2 : Hid (VA wf qn ((ver M p).cells v) 162) := vf
  have BB_2 : Hid (Below w.heap.size w wf) := uf.bel BB_b.out QLqn.out
  refine hK.out _ _ HM_2.out.va (fun hHeld => ?_)
  clear hK K uf vf hfo
  try simp only [nrm]
  refine tK 15 7 (.int .i64 er) (by exact rfl) (Or.inl ⟨by rfl, ?_⟩) ?_
  ·intro wq hS
   go_simp
  try simp only [nrm]
  refine wpAnyH_done (by kernel_rfl) ?_ _
  refine NoPanic.normal ?_
  clear hHeld
  generalize wf = w2 at *
  have z2 := HP_2.out.cell 2 (v := .int .i64 (ver M p).cur) rfl
  have z1 := HP_2.out.cell 1 (v := .int .i64 (ver M p).kind) rfl
  have hmm := @run_makeMap Tryz.prog
  go_upto_region 2 with fail
  clear z1 z2 hmm
  have b3 := ((Below.refl w2.heap.size w2).alloc (Nat.le_refl _) (.map #[] 0)).alloc (by simp) (.cells ((newA M id p).cells w2.heap.size).toArray 85)
  have HA_3 := hI_ ((fZ KI encI w2).step ((Below.refl _ _).alloc (Nat.le_refl _) (.cells ((newA M id p).cells w2.heap.size).toArray 85)))
  have ha3 := aa (w2.alloc (.map #[] 0)) ((newA M id p).cells w2.heap.size) 85
  rw [World.size_alloc] at ha3
  have HN_3 := hI_ ha3
  have HM_3 := hI_ (HM_2.out.step b3)
  have BB_3 := hI_ (BB_2.out.trans (b3.mono BB_2.out.size))
  clear ha3 b3 HP_2
  have hsz := BB_2.out.size
  have hW : (w2.alloc (.map #[] 0)).alloc (.cells ((newA M id p).cells w2.heap.size).toArray 85) = (w2.alloc (.map #[] 0)).alloc (.cells #[.int .i64 id, .int .i64 p, .int .i64 (ver M p).cur, .int .i64 (ver M p).kind, .bool true, .int .i64 0, .int .i64 0, .int .i64 0, .map (some w2.heap.size)] 85) := rfl
  rw [hW] at HA_3 HN_3 HM_3 BB_3
  clear hW
  generalize (w2.alloc (.map #[] 0)).alloc (.cells #[.int .i64 id, .int .i64 p, .int .i64 (ver M p).cur, .int .i64 (ver M p).kind, .bool true, .int .i64 0, .int .i64 0, .int .i64 0, .map (some w2.heap.size)] 85) = w3 at *
  have HSV : Hid (∃ sa sc, F.sv = .slice sa M.al.length sc) := by obtain ⟨sa, sc, e, _⟩ := HM_3.out.form; exact ⟨sa, sc, e⟩
  go_wp2_with fail
  refine (fh w3 B F M HM_3.out id).mono ?_
  rintro e wq ⟨rfl, hwq⟩
  obtain rfl := hwq.symm
  clear hwq
  rw [HPL.out]
  have c2 := HM_3.out.va.cell 2 (v := F.sv) rfl
  go_wp2_with fail
  have b4 := (Below.refl w3.heap.size w3).alloc (Nat.le_refl _) (.cells #[.pointer (some ⟨w2.heap.size + 1, 0, none⟩)] 81)
  have HU_4 : Hid (Sl KP (w3.alloc (.cells #[.pointer (some ⟨w2.heap.size + 1, 0, none⟩)] 81)) (.slice (some ⟨w3.heap.size, 0, none⟩) 1 1) [w2.heap.size + 1]) := lJ (K := KP) (xs := [w2.heap.size + 1]) (aa w3 (KP.cells [w2.heap.size + 1]) 81) (by show 1 ≤ _; decide)
  have HM_4 := hI_ (HM_3.out.step b4)
  have HA_4 := hI_ (HA_3.out.step b4)
  have HN_4 := hI_ (HN_3.out.step b4)
  have BB_4 := hI_ (BB_3.out.trans (b4.mono BB_3.out.size))
  have hlen : (F.ab.map (·.1)).length = M.al.length := by rw [List.length_map, HM_.out.len]
  clear b4 c2
  generalize w3.alloc (.cells #[.pointer (some ⟨w2.heap.size + 1, 0, none⟩)] 81) = w4 at *
  generalize w3.heap.size = us at *
  have HI := gN w4 B F.sv (.slice (some ⟨us, 0, none⟩) 1 1) (F.ab.map (·.1)) (w2.heap.size + 1) HM_4.out.row HU_4.out (fun n c e => by cases e) HM_4.out.lt (by rw [hlen]; have := HLL.out; omega)
  rw [hlen] at HI
  refine HI.mono ?_
  rintro e w5 ⟨v5, rfl, o5, b5, g5⟩
  clear HI
  have k5 : Hid (But (fun j => F.sv.ownBlock = some j) w4 w5) := eO g5
  have ho : ∀ {q : Nat} {cs : List Value} {T : TypeId}, VA w4 q cs T → T ≠ 81 → ¬ (F.sv.ownBlock = some q) := fun u h2 e => by
   obtain ⟨cs, e3⟩ := HM_4.out.row.blkT e
   have := u.blk.symm.trans e3
   simp only [Option.some.injEq, Obj.cells.injEq] at this
   exact h2 this.2.1
  have V5 := hI_ (HM_4.out.va.but k5.out (ho HM_4.out.va (by decide)))
  have N5 := hI_ (HN_4.out.but k5.out (ho HN_4.out (by decide)))
  have A5 := (show Hid _ from HA_4.out.but k5.out (fun e => by
   obtain ⟨cs, e3⟩ := HM_4.out.row.blkT e
   obtain ⟨es, c, e4⟩ := HA_4.out.isMap
   have := e3.symm.trans e4
   cases this))
  obtain ⟨va, vc, rfl, _, _⟩ := o5.form
  have O5 := hI_ o5
  clear o5 b5 g5 ho
  generalize (F.ab.map (·.1) ++ [w2.heap.size + 1]).length = vn at *
  have c2 := V5.out.cell 2 (v := F.sv) rfl
  have f2 := V5.out.free 2
  have hbk := V5.out.blk
  go_wp2_with fail
  have U6 := ax w5 F.pm 2 (.slice va vn vc)
  have V6 : VA (w5.setCell ⟨F.pm, 2, none⟩ (.slice va vn vc)) F.pm (mcells (F.more (.slice va vn vc) (w2.heap.size + 1) w2.heap.size) M) 100 := V5.out.set 2 (.slice va vn vc)
  have K6 : But (fun j => j = F.pm ∨ F.sv.ownBlock = some j) w (w5.setCell ⟨F.pm, 2, none⟩ (.slice va vn vc)) := ((af BB_4.out _).trans k5.out (fun _ _ e => Or.inr e)).trans U6.but (fun _ _ e => Or.inl e)
  have hl1 : w.heap.size ≤ w2.heap.size + 1 := by omega
  refine bodyPost_end (v := .tuple #[]) (by simp [results, Tryz.results85, go_sem]) rfl ⟨_, _, _, rfl, HM_.out.addA K6 hl1 hsz V6 ?_ (N5.out.upd U6 (N5.out.ne V5.out (by decide))) (A5.out.but U6.but (fun e => V5.out.neM A5.out.isMap e.symm)) HWF.out HIDS.out HLL.out, K6, hl1, hsz⟩
  rw [List.map_append]
  exact O5.out.but U6.but (fun g hg hx => by
   obtain ⟨cs, e⟩ := O5.out.blkT hg
   subst hx
   have := e.symm.trans V5.out.blk
   simp only [Option.some.injEq, Obj.cells.injEq] at this
   exact absurd this.2.1 (by decide))

 ·go_simp
  have ba := (Below.refl wz.heap.size wz).alloc (Nat.le_refl _) (.cells #[.int .i64 0, .int .i64 0, .int .i64 0, .int .i64 0, .int .i64 0, .int .i64 0, .int .i64 0, .int .i64 0, .slice none 0 0] 162)
  have HM_a := hI_ (HM_z.out.step ba)
  have BB_a := hI_ (BB_z.out.trans (ba.mono BB_z.out.size))
  have HN_a := hI_ (aa wz ([.int .i64 0, .int .i64 0, .int .i64 0, .int .i64 0, .int .i64 0, .int .i64 0, .int .i64 0, .int .i64 0, .slice none 0 0] : List Value) 162)
  have QLqn : Hid (w.heap.size ≤ wz.heap.size) := BB_z.out.size
  refine hK.out _ _ (HM_a.out.va) (fun hHeld => ?_)
  try simp only [nrm]
  clear hK K ba
  generalize wz.alloc (.cells #[.int .i64 0, .int .i64 0, .int .i64 0, .int .i64 0, .int .i64 0, .int .i64 0, .int .i64 0, .int .i64 0, .slice none 0 0] 162) = wa at *
  generalize wz.heap.size = qn at *
  clear hHeld
  refine rdy 9 (fun K hK => ?_)
  go_simp
  refine Calls.mono (de wa B F M HM_a.out p) ?_
  rintro e wb ⟨⟨v, rfl, o1⟩, bb⟩
  have HM_b := hI_ (HM_a.out.step bb)
  have HN_b := hI_ (HN_a.out.step bb)
  have BB_b := hI_ (BB_a.out.trans (bb.mono BB_a.out.size))
  rw [← HER.out]
  have OF : Hid (∃ a n c, v = .slice a n c) := by obtain ⟨a, c, e, _⟩ := o1.tr.form; exact ⟨a, _, c, e⟩
  clear o1
  clear bb
  go_wp2_with fail
  refine hK.out _ _ (HM_b.out.va) (fun hHeld => ?_)
  try simp only [nrm]
  clear hK K
  refine tK 10 11 (.tuple #[.agg ((ver M p).cells v).toArray, .int .i64 er]) (by exact rfl) (Or.inl ⟨by rfl, ?_⟩) ?_
  ·intro wq hS
   go_simp
  try simp only [nrm]
  refine tK 11 22 (.agg ((ver M p).cells v).toArray) (by exact rfl) (Or.inl ⟨by rfl, ?_⟩) ?_
  ·intro wq hS
   go_simp
  try simp only [nrm]
  refine tK 12 23 (.int .i64 er) (by exact rfl) (Or.inl ⟨by rfl, ?_⟩) ?_
  ·intro wq hS
   go_simp
  try simp only [nrm]
  refine rdy 14 (fun K hK => ?_)
  refine eC (by rfl) rfl 162 _ _ rfl qn (by rfl) ([.int .i64 0, .int .i64 0, .int .i64 0, .int .i64 0, .int .i64 0, .int .i64 0, .int .i64 0, .int .i64 0, .slice none 0 0]) ((ver M p).cells v) (by rfl) 162 HN_b.out infoP rfl (bI _ OF.out) ?_
  intro wf vf uf
  have hfo : ∀ i, i = qn → Fo wb i := fun i hi => by rw [hi]; exact dO HN_b.out (by decide)
  have HM_2 : Hid (MD wf B F M) := HM_b.out.but uf.but hfo
  have HP_2 : Hid (VA wf qn ((ver M p).cells v) 162) := vf
  have BB_2 : Hid (Below w.heap.size w wf) := uf.bel BB_b.out QLqn.out
  refine hK.out _ _ HM_2.out.va (fun hHeld => ?_)
  clear hK K uf vf hfo
  try simp only [nrm]
  refine tK 15 7 (.int .i64 er) (by exact rfl) (Or.inl ⟨by rfl, ?_⟩) ?_
  ·intro wq hS
   go_simp
  try simp only [nrm]
  refine wpAnyH_done (by kernel_rfl) ?_ _
  refine NoPanic.normal ?_
  clear hHeld
  generalize wf = w2 at *
  have z2 := HP_2.out.cell 2 (v := .int .i64 (ver M p).cur) rfl
  have z1 := HP_2.out.cell 1 (v := .int .i64 (ver M p).kind) rfl
  have hmm := @run_makeMap Tryz.prog
  go_upto_region 2 with fail
  clear z1 z2 hmm
  have b3 := ((Below.refl w2.heap.size w2).alloc (Nat.le_refl _) (.map #[] 0)).alloc (by simp) (.cells ((newA M id p).cells w2.heap.size).toArray 85)
  have HA_3 := hI_ ((fZ KI encI w2).step ((Below.refl _ _).alloc (Nat.le_refl _) (.cells ((newA M id p).cells w2.heap.size).toArray 85)))
  have ha3 := aa (w2.alloc (.map #[] 0)) ((newA M id p).cells w2.heap.size) 85
  rw [World.size_alloc] at ha3
  have HN_3 := hI_ ha3
  have HM_3 := hI_ (HM_2.out.step b3)
  have BB_3 := hI_ (BB_2.out.trans (b3.mono BB_2.out.size))
  clear ha3 b3 HP_2
  have hsz := BB_2.out.size
  have hW : (w2.alloc (.map #[] 0)).alloc (.cells ((newA M id p).cells w2.heap.size).toArray 85) = (w2.alloc (.map #[] 0)).alloc (.cells #[.int .i64 id, .int .i64 p, .int .i64 (ver M p).cur, .int .i64 (ver M p).kind, .bool true, .int .i64 0, .int .i64 0, .int .i64 0, .map (some w2.heap.size)] 85) := rfl
  rw [hW] at HA_3 HN_3 HM_3 BB_3
  clear hW
  generalize (w2.alloc (.map #[] 0)).alloc (.cells #[.int .i64 id, .int .i64 p, .int .i64 (ver M p).cur, .int .i64 (ver M p).kind, .bool true, .int .i64 0, .int .i64 0, .int .i64 0, .map (some w2.heap.size)] 85) = w3 at *
  have HSV : Hid (∃ sa sc, F.sv = .slice sa M.al.length sc) := by obtain ⟨sa, sc, e, _⟩ := HM_3.out.form; exact ⟨sa, sc, e⟩
  go_wp2_with fail
  refine (fh w3 B F M HM_3.out id).mono ?_
  rintro e wq ⟨rfl, hwq⟩
  obtain rfl := hwq.symm
  clear hwq
  rw [HPL.out]
  have c2 := HM_3.out.va.cell 2 (v := F.sv) rfl
  go_wp2_with fail
  have b4 := (Below.refl w3.heap.size w3).alloc (Nat.le_refl _) (.cells #[.pointer (some ⟨w2.heap.size + 1, 0, none⟩)] 81)
  have HU_4 : Hid (Sl KP (w3.alloc (.cells #[.pointer (some ⟨w2.heap.size + 1, 0, none⟩)] 81)) (.slice (some ⟨w3.heap.size, 0, none⟩) 1 1) [w2.heap.size + 1]) := lJ (K := KP) (xs := [w2.heap.size + 1]) (aa w3 (KP.cells [w2.heap.size + 1]) 81) (by show 1 ≤ _; decide)
  have HM_4 := hI_ (HM_3.out.step b4)
  have HA_4 := hI_ (HA_3.out.step b4)
  have HN_4 := hI_ (HN_3.out.step b4)
  have BB_4 := hI_ (BB_3.out.trans (b4.mono BB_3.out.size))
  have hlen : (F.ab.map (·.1)).length = M.al.length := by rw [List.length_map, HM_.out.len]
  clear b4 c2
  generalize w3.alloc (.cells #[.pointer (some ⟨w2.heap.size + 1, 0, none⟩)] 81) = w4 at *
  generalize w3.heap.size = us at *
  have HI := gN w4 B F.sv (.slice (some ⟨us, 0, none⟩) 1 1) (F.ab.map (·.1)) (w2.heap.size + 1) HM_4.out.row HU_4.out (fun n c e => by cases e) HM_4.out.lt (by rw [hlen]; have := HLL.out; omega)
  rw [hlen] at HI
  refine HI.mono ?_
  rintro e w5 ⟨v5, rfl, o5, b5, g5⟩
  clear HI
  have k5 : Hid (But (fun j => F.sv.ownBlock = some j) w4 w5) := eO g5
  have ho : ∀ {q : Nat} {cs : List Value} {T : TypeId}, VA w4 q cs T → T ≠ 81 → ¬ (F.sv.ownBlock = some q) := fun u h2 e => by
   obtain ⟨cs, e3⟩ := HM_4.out.row.blkT e
   have := u.blk.symm.trans e3
   simp only [Option.some.injEq, Obj.cells.injEq] at this
   exact h2 this.2.1
  have V5 := hI_ (HM_4.out.va.but k5.out (ho HM_4.out.va (by decide)))
  have N5 := hI_ (HN_4.out.but k5.out (ho HN_4.out (by decide)))
  have A5 := (show Hid _ from HA_4.out.but k5.out (fun e => by
   obtain ⟨cs, e3⟩ := HM_4.out.row.blkT e
   obtain ⟨es, c, e4⟩ := HA_4.out.isMap
   have := e3.symm.trans e4
   cases this))
  obtain ⟨va, vc, rfl, _, _⟩ := o5.form
  have O5 := hI_ o5
  clear o5 b5 g5 ho
  generalize (F.ab.map (·.1) ++ [w2.heap.size + 1]).length = vn at *
  have c2 := V5.out.cell 2 (v := F.sv) rfl
  have f2 := V5.out.free 2
  have hbk := V5.out.blk
  go_wp2_with fail
  have U6 := ax w5 F.pm 2 (.slice va vn vc)
  have V6 : VA (w5.setCell ⟨F.pm, 2, none⟩ (.slice va vn vc)) F.pm (mcells (F.more (.slice va vn vc) (w2.heap.size + 1) w2.heap.size) M) 100 := V5.out.set 2 (.slice va vn vc)
  have K6 : But (fun j => j = F.pm ∨ F.sv.ownBlock = some j) w (w5.setCell ⟨F.pm, 2, none⟩ (.slice va vn vc)) := ((af BB_4.out _).trans k5.out (fun _ _ e => Or.inr e)).trans U6.but (fun _ _ e => Or.inl e)
  have hl1 : w.heap.size ≤ w2.heap.size + 1 := by omega
  refine bodyPost_end (v := .tuple #[]) (by simp [results, Tryz.results85, go_sem]) rfl ⟨_, _, _, rfl, HM_.out.addA K6 hl1 hsz V6 ?_ (N5.out.upd U6 (N5.out.ne V5.out (by decide))) (A5.out.but U6.but (fun e => V5.out.neM A5.out.isMap e.symm)) HWF.out HIDS.out HLL.out, K6, hl1, hsz⟩
  rw [List.map_append]
  exact O5.out.but U6.but (fun g hg hx => by
   obtain ⟨cs, e⟩ := O5.out.blkT hg
   subst hx
   have := e.symm.trans V5.out.blk
   simp only [Option.some.injEq, Obj.cells.injEq] at this
   exact absurd this.2.1 (by decide))

set_option maxRecDepth 100000 in
theorem oC (w : World) (B : Nat) (F : FB) (M : PM) (hM : MD w B F M) (T : TBL w) (hB : 6 ≤ B) (e : EV) (tv : Value) (hop : e.op = 2) (hi : I64 e.n0) (hpl : plc M.al e.n0 = M.al.length) (hw : (newA M e.n0 e.n1).wf) (hids : ∀ b ∈ M.al, b.id < e.n0) (hl : M.al.length < 256) :
  Calls Tryz.prog 55 #[.pointer (some ⟨F.pm, 0, none⟩), .agg (e.cells tv).toArray] w fun r w' => ∃ v q hb, r = .returned (.tuple #[]) ∧ MD w' B (F.more v q hb) { M with al := M.al ++ [newA M e.n0 e.n1] } ∧ But (F.reach w B) w w' ∧ w.heap.size ≤ q ∧ w.heap.size ≤ hb := by
 have b0 := (Below.refl w.heap.size w).alloc (Nat.le_refl _) (.cells (e.cells tv).toArray 31)
 have b1 := b0.alloc (by simp) (.cells #[.int .i64 0, .int .i64 0, .int .i64 0, .int .i64 0, .int .i64 0, .int .i64 0, .int .i64 0, .int .i64 0] 28)
 have V00 := aa w (e.cells tv) 31
 have V0 := V00.alloc (.cells #[.int .i64 0, .int .i64 0, .int .i64 0, .int .i64 0, .int .i64 0, .int .i64 0, .int .i64 0, .int .i64 0] 28)
 have hn0 := aa (w.alloc (.cells (e.cells tv).toArray 31)) ([.int .i64 0, .int .i64 0, .int .i64 0, .int .i64 0, .int .i64 0, .int .i64 0, .int .i64 0, .int .i64 0] : List Value) 28
 rw [World.size_alloc] at hn0
 have HN0 := hI_ hn0
 have y0 := V00.cell 2 (v := .int .i64 e.n0) rfl
 have y1 := V00.cell 3 (v := .int .i64 e.n1) rfl
 have y2 := V00.cell 4 (v := .int .i64 e.n2) rfl
 have y3 := V00.cell 5 (v := .int .i64 e.n3) rfl
 have y4 := V00.cell 6 (v := .int .i64 e.n4) rfl
 have y5 := V00.cell 7 (v := .int .i64 e.n5) rfl
 have y6 := V00.cell 8 (v := .int .i64 e.n6) rfl
 have y7 := V00.cell 9 (v := .int .i64 e.n7) rfl
 have HRW : Hid (∀ g, F.sv.ownBlock = some g → B ≤ g ∧ ∃ cs, w.heap[g]? = some (.cells cs 81 (0, 0))) := fun g hg => ⟨hM.row.block g hg, hM.row.blkT hg⟩
 have HE0 := hI_ V0
 have HB0 := hI_ b1
 have HH : Hid (MD w B F M ∧ TBL w) := ⟨hM, T⟩
 have HQ : Hid (6 ≤ B ∧ ∀ j, F.core j → j < w.heap.size) := ⟨hB, fun j hj => hM.core_lt hj⟩
 have HOP : Hid (e.op = 2) := hop
 have H_hi := hI_ hi
 have H_hpl := hI_ hpl
 have H_hw := hI_ hw
 have H_hids := hI_ hids
 have H_hl := hI_ hl
 clear hi hpl hw hids hl
 clear b0 b1 V00 V0 hn0 hM T hB hop
 go_enter Tryz.func55, Tryz.ntmps55
 go_upto_region 2 with (refine stA rfl 28 _ _ rfl (w.heap.size + 1) (by rfl) ([.int .i64 0, .int .i64 0, .int .i64 0, .int .i64 0, .int .i64 0, .int .i64 0, .int .i64 0, .int .i64 0] : List Value) [.int .i64 e.n0, .int .i64 e.n1, .int .i64 e.n2, .int .i64 e.n3, .int .i64 e.n4, .int .i64 e.n5, .int .i64 e.n6, .int .i64 e.n7] (by rfl) 28 HN0.out bp rfl (aI e) ?_; intro w1 hv1 hu1)
 have hb1 := hu1.bel HB0.out (by omega)
 have HM_1 : Hid (MD w1 B F M) := HH.out.1.step hb1
 have HT_1 : Hid (TBL w1) := HH.out.2.step hb1
 have BB_1 := hI_ hb1
 have HE_1 : Hid (VA w1 w.heap.size (e.cells tv) 31) := HE0.out.upd hu1 (by omega)
 have HN_1 : Hid (VA w1 (w.heap.size + 1) [.int .i64 e.n0, .int .i64 e.n1, .int .i64 e.n2, .int .i64 e.n3, .int .i64 e.n4, .int .i64 e.n5, .int .i64 e.n6, .int .i64 e.n7] 28) := hv1
 have y : w1.cell? ⟨w.heap.size, 0, none⟩ = some (.int .u8 2) := by have := HE_1.out.cell 0 (v := .int .u8 (e.op : Int)) rfl; rw [HOP.out] at this; exact this
 clear hb1 hv1 hu1 HN0 HE0 HB0 HH y0 y1 y2 y3 y4 y5 y6 y7
 have m0 := HN_1.out.cell 0 (v := .int .i64 e.n0) rfl
 have m1 := HN_1.out.cell 1 (v := .int .i64 e.n1) rfl
 have hsz := BB_1.out.size
 go_wp2_with fail
 refine (ph w1 B F M HM_1.out e.n0 e.n1 H_hi.out H_hpl.out H_hw.out H_hids.out H_hl.out).mono ?_
 rintro r w4 ⟨v, q, hb, rfl, h1, h2, h3, h4⟩
 have HM_4 := hI_ h1
 have HB_4 : Hid (But (F.reach w B) w w4) := (af BB_1.out (F.reach w B)).trans h2 (fun j hl hj => hj.elim (fun e => Or.inl (Or.inl e)) (fun e => Or.inr (Or.inr (Or.inr (Or.inl (by obtain ⟨eB, cs, e2⟩ := HRW.out j e; exact ⟨eB, _, _, e2⟩))))))
 have l3 : w.heap.size ≤ q := by omega
 have l4 : w.heap.size ≤ hb := by omega
 clear h1 h2 h3 h4 m0 m1 y
 go_wp2_with fail
 exact bodyPost_end (v := .tuple #[]) (by simp [results, Tryz.results55, go_sem]) rfl ⟨v, q, hb, rfl, HM_4.out, HB_4.out, l3, l4⟩
def askL (M : PM) (l : Int) (e : EV) : Int :=
 if e.op = 1 then wth l (addE M.vs e.pv) else
 if e.op = 2 then openL M l e.n0 e.n1 else
 if e.op = 3 then whn (namedK M l e.n0 0) (emptyO (acctO M e.n0)) 15 else
 if e.op = 4 then whn (namedK M (whn l (beyond e.n1 10000000000000) 1) e.n0 1) (roomO (acctO M e.n0) e.n1) 4 else
 if e.op = 5 then whn (namedK M (whn l (beyond e.n1 10000000000000) 1) e.n0 1) (fundsO M (acctO M e.n0) e.n1) 13 else
 if e.op = 6 then transferL M l e.n0 e.n1 e.n2 else
 if e.op = 7 then holdL M l e.n0 e.n1 e.n2 else
 if e.op = 8 then freeL M l e.n0 e.n1 else
 if e.op = 9 then lendL M l e.n0 e.n1 e.n2 e.n3 else
 if e.op = 10 then repayL M l e.n0 e.n1 e.n2 else
 if e.op = 11 then rateL l e.n0 e.n1 e.n2 else exchL M l e.n0 e.n1 e.n2
theorem tw (w : World) (B : Nat) (F : FB) (M : PM) (hM : MD w B F M) (rp : Nat) (l : Int) (h : RO w rp F.pm l) (e : EV) (he : e.ok) (tv : Value) (R : Tr w tv e.ts) (hno : ∀ n c, tv = .slice none n c → c = 0) (T : TBL w) (hrp : 6 ≤ rp) (h1 : 1 ≤ e.op ∧ e.op ≤ 12) :
  Calls Tryz.prog 74 #[.pointer (some ⟨rp, 0, none⟩), .agg (e.cells tv).toArray] w fun r w' => r = .returned (.tuple #[]) ∧ RO w' rp F.pm (askL M l e) ∧ But (fun i => i = rp) w w' := by
 have hc : e.op = 1 ∨ e.op = 2 ∨ e.op = 3 ∨ e.op = 4 ∨ e.op = 5 ∨ e.op = 6 ∨ e.op = 7 ∨ e.op = 8 ∨ e.op = 9 ∨ e.op = 10 ∨ e.op = 11 ∨ e.op = 12 := by omega
 unfold askL
 rcases hc with k | k | k | k | k | k | k | k | k | k | k | k
 ·rw [if_pos k]
  exact vp w B F M hM rp l h e he tv R hno T hrp k
 ·rw [if_neg (by omega), if_pos k]
  exact vq w B F M hM rp l h e he tv R hno T hrp k
 ·rw [if_neg (by omega), if_neg (by omega), if_pos k]
  exact vr w B F M hM rp l h e he tv R hno T hrp k
 ·rw [if_neg (by omega), if_neg (by omega), if_neg (by omega), if_pos k]
  exact vt w B F M hM rp l h e he tv R hno T hrp k
 ·rw [if_neg (by omega), if_neg (by omega), if_neg (by omega), if_neg (by omega), if_pos k]
  exact vu w B F M hM rp l h e he tv R hno T hrp k
 ·rw [if_neg (by omega), if_neg (by omega), if_neg (by omega), if_neg (by omega), if_neg (by omega), if_pos k]
  exact vv w B F M hM rp l h e he tv R hno T hrp k
 ·rw [if_neg (by omega), if_neg (by omega), if_neg (by omega), if_neg (by omega), if_neg (by omega), if_neg (by omega), if_pos k]
  exact vw w B F M hM rp l h e he tv R hno T hrp k
 ·rw [if_neg (by omega), if_neg (by omega), if_neg (by omega), if_neg (by omega), if_neg (by omega), if_neg (by omega), if_neg (by omega), if_pos k]
  exact vx w B F M hM rp l h e he tv R hno T hrp k
 ·rw [if_neg (by omega), if_neg (by omega), if_neg (by omega), if_neg (by omega), if_neg (by omega), if_neg (by omega), if_neg (by omega), if_neg (by omega), if_pos k]
  exact vy w B F M hM rp l h e he tv R hno T hrp k
 ·rw [if_neg (by omega), if_neg (by omega), if_neg (by omega), if_neg (by omega), if_neg (by omega), if_neg (by omega), if_neg (by omega), if_neg (by omega), if_neg (by omega), if_pos k]
  exact tp w B F M hM rp l h e he tv R hno T hrp k
 ·rw [if_neg (by omega), if_neg (by omega), if_neg (by omega), if_neg (by omega), if_neg (by omega), if_neg (by omega), if_neg (by omega), if_neg (by omega), if_neg (by omega), if_neg (by omega), if_pos k]
  exact tq w B F M hM rp l h e he tv R hno T hrp k
 ·rw [if_neg (by omega), if_neg (by omega), if_neg (by omega), if_neg (by omega), if_neg (by omega), if_neg (by omega), if_neg (by omega), if_neg (by omega), if_neg (by omega), if_neg (by omega), if_neg (by omega)]
  exact tt w B F M hM rp l h e he tv R hno T hrp k
theorem vb {e : EV} (h : e.e8.form) : zeros e.e8 := h.zero
theorem cH (e : EV) (tv : Value) (w : World) (he : e.ok) (T : Tc w) (R : Tr w tv e.ts) (b : Int) (hb : (e.e8.form ∧ b = 0) ∨ (¬ e.e8.form ∧ b = 3)) :
  Calls Tryz.prog 71 #[.agg #[.int .u8 (e.op : Int), .int .u64 (e.key : Int), .int .i64 e.n0, .int .i64 e.n1, .int .i64 e.n2, .int .i64 e.n3, .int .i64 e.n4, .int .i64 e.n5, .int .i64 e.n6, .int .i64 e.n7, tv]] w fun r w' => r = .returned (.int .i64 b) ∧ Below w.heap.size w w' := by
 rcases hb with ⟨h, rfl⟩ | ⟨h, rfl⟩
 ·exact jA e.e8 tv w (EV.ok8 he) T R h.lo h.hi h.tiers 0 (Or.inl ⟨vb h, rfl⟩)
 ·exact nd e.e8 tv w (EV.ok8 he) T R h
def refL (M : PM) (e : EV) (f : Bool) : Int :=
 if f = false ∨ (e.op = 12 ∧ e.n3 ≠ 0) then 3 else
 if ofDay e.op = true then 1 else
 if usedK M e.key = true then 16 else
 if M.uw = true then 14 else askL M 0 e
theorem uu : (Tryz.prog.info? 148).map (·.size) = some 2 := by kernel_rfl
set_option maxRecDepth 100000 in
theorem gV (w : World) (B : Nat) (F : FB) (M : PM) (hM : MD w B F M) (e : EV) (he : e.ok) (tv : Value) (R : Tr w tv e.ts) (hno : ∀ n c, tv = .slice none n c → c = 0) (T : TBL w) (f : Bool) (hform : f = true ↔ e.e8.form) :
  Calls Tryz.prog 38 #[.pointer (some ⟨F.pm, 0, none⟩), .agg (e.cells tv).toArray] w fun r w' => r = .returned (.int .i64 (refL M e f)) ∧ Below w.heap.size w w' := by
 have V := aa w (e.cells tv) 31
 have y0 := V.cell 0 (v := .int .u8 (e.op : Int)) rfl
 have y1 := V.cell 1 (v := .int .u64 (e.key : Int)) rfl
 have y2 := V.cell 2 (v := .int .i64 e.n0) rfl
 have y3 := V.cell 3 (v := .int .i64 e.n1) rfl
 have y4 := V.cell 4 (v := .int .i64 e.n2) rfl
 have y5 := V.cell 5 (v := .int .i64 e.n3) rfl
 have y6 := V.cell 6 (v := .int .i64 e.n4) rfl
 have y7 := V.cell 7 (v := .int .i64 e.n5) rfl
 have y8 := V.cell 8 (v := .int .i64 e.n6) rfl
 have y9 := V.cell 9 (v := .int .i64 e.n7) rfl
 have y10 := V.cell 10 (v := tv) rfl
 have b0 := (Below.refl w.heap.size w).alloc (Nat.le_refl _) (.cells (e.cells tv).toArray 31)
 have BB_0 := hI_ b0
 have HM_0 : Hid (MD _ B F M) := hM.step b0
 have HE_0 := hI_ V
 have HTR_0 : Hid (Tr _ tv e.ts) := R.step b0
 have HT_0 : Hid (TBL _) := T.step b0
 have HQ : Hid (e.ok ∧ ∀ n c, tv = .slice none n c → c = 0) := ⟨he, hno⟩
 clear V b0 hM R T he hno
 unfold refL
 by_cases hf : e.e8.form
 ·by_cases h12 : e.op = 12 ∧ e.n3 ≠ 0
  ·rw [if_pos (Or.inr h12)]
   have e12 : ((e.op : Int) == 12) = true := by rw [h12.1]; rfl
   have e3 : (e.n3 != 0) = true := by simpa using h12.2
   clear h12
   go_enter Tryz.func38, Tryz.ntmps38
   go_wp2_with fail
   generalize hW : w.alloc (.cells (e.cells tv).toArray 31) = w0 at *
   clear hW
   refine (cH e tv w0 HQ.out.1 HT_0.out.tc HTR_0.out 0 (Or.inl ⟨hf, rfl⟩)).mono ?_
   rintro r w1 ⟨rfl, b1⟩
   have HM_1 : Hid (MD w1 B F M) := HM_0.out.step b1
   have HE_1 : Hid (VA w1 w.heap.size (e.cells tv) 31) := HE_0.out.step b1
   have HTR_1 : Hid (Tr w1 tv e.ts) := HTR_0.out.step b1
   have HT_1 : Hid (TBL w1) := HT_0.out.step b1
   have BB_1 := hI_ (BB_0.out.trans (b1.mono BB_0.out.size))
   clear b1 y0 y1 y2 y3 y4 y5 y6 y7 y8 y9 y10 HM_0 HE_0 HTR_0 HT_0 BB_0
   have z0 := HE_1.out.cell 0 (v := .int .u8 (e.op : Int)) rfl
   have z1 := HE_1.out.cell 1 (v := .int .u64 (e.key : Int)) rfl
   have z2 := HE_1.out.cell 2 (v := .int .i64 e.n0) rfl
   have z3 := HE_1.out.cell 3 (v := .int .i64 e.n1) rfl
   have z4 := HE_1.out.cell 4 (v := .int .i64 e.n2) rfl
   have z5 := HE_1.out.cell 5 (v := .int .i64 e.n3) rfl
   have z6 := HE_1.out.cell 6 (v := .int .i64 e.n4) rfl
   have z7 := HE_1.out.cell 7 (v := .int .i64 e.n5) rfl
   have z8 := HE_1.out.cell 8 (v := .int .i64 e.n6) rfl
   have z9 := HE_1.out.cell 9 (v := .int .i64 e.n7) rfl
   have z10 := HE_1.out.cell 10 (v := tv) rfl
   go_wp2_with fail
   go_ret
   exact ⟨rfl, BB_1.out⟩
  ·rw [if_neg (by rintro (h | h); rw [hform.2 hf] at h; cases h; exact h12 h)]
   have e123 : ((e.op : Int) == 12) = false ∨ ((e.op : Int) == 12) = true ∧ (e.n3 != 0) = false := by
    by_cases h : e.op = 12
    ·refine Or.inr ⟨by rw [h]; rfl, ?_⟩
     have : e.n3 = 0 := Decidable.byContradiction (fun h3 => h12 ⟨h, h3⟩)
     simpa using this
    ·exact Or.inl (by simpa using fun h2 : (e.op : Int) = 12 => h (by omega))
   have HOP0 : Hid (1 ≤ e.op ∧ e.op ≤ 15) := ⟨hf.lo, hf.hi⟩
   clear h12
   rcases e123 with e12 | ⟨e12, e3⟩
   all_goals (
    cases hd : ofDay e.op with
    | true =>
     rw [if_pos rfl]
     go_enter Tryz.func38, Tryz.ntmps38
     go_wp2_with fail
     generalize hW : w.alloc (.cells (e.cells tv).toArray 31) = w0 at *
     clear hW
     refine (cH e tv w0 HQ.out.1 HT_0.out.tc HTR_0.out 0 (Or.inl ⟨hf, rfl⟩)).mono ?_
     rintro r w1 ⟨rfl, b1⟩
     have HM_1 : Hid (MD w1 B F M) := HM_0.out.step b1
     have HE_1 : Hid (VA w1 w.heap.size (e.cells tv) 31) := HE_0.out.step b1
     have HTR_1 : Hid (Tr w1 tv e.ts) := HTR_0.out.step b1
     have HT_1 : Hid (TBL w1) := HT_0.out.step b1
     have BB_1 := hI_ (BB_0.out.trans (b1.mono BB_0.out.size))
     clear b1 y0 y1 y2 y3 y4 y5 y6 y7 y8 y9 y10 HM_0 HE_0 HTR_0 HT_0 BB_0
     have z0 := HE_1.out.cell 0 (v := .int .u8 (e.op : Int)) rfl
     have z1 := HE_1.out.cell 1 (v := .int .u64 (e.key : Int)) rfl
     have z2 := HE_1.out.cell 2 (v := .int .i64 e.n0) rfl
     have z3 := HE_1.out.cell 3 (v := .int .i64 e.n1) rfl
     have z4 := HE_1.out.cell 4 (v := .int .i64 e.n2) rfl
     have z5 := HE_1.out.cell 5 (v := .int .i64 e.n3) rfl
     have z6 := HE_1.out.cell 6 (v := .int .i64 e.n4) rfl
     have z7 := HE_1.out.cell 7 (v := .int .i64 e.n5) rfl
     have z8 := HE_1.out.cell 8 (v := .int .i64 e.n6) rfl
     have z9 := HE_1.out.cell 9 (v := .int .i64 e.n7) rfl
     have z10 := HE_1.out.cell 10 (v := tv) rfl
     go_wp2_with fail
     refine (dR e.op w1).mono ?_
     rintro r wq ⟨rfl, hwq⟩
     obtain rfl := hwq.symm
     clear hwq
     rw [hd]
     go_wp2_with fail
     go_ret
     exact ⟨rfl, BB_1.out⟩
    | false =>
     rw [if_neg (by simp)]
     have HOP : Hid (1 ≤ e.op ∧ e.op ≤ 12) := (show 1 ≤ e.op ∧ e.op ≤ 12 from by have h1 := HOP0.out; have h2 : ¬ (e.op = 13 ∨ e.op = 14 ∨ e.op = 15) := of_decide_eq_false hd; omega)
     cases hu : usedK M e.key with
     | true =>
      rw [if_pos rfl]
      go_enter Tryz.func38, Tryz.ntmps38
      go_wp2_with fail
      generalize hW : w.alloc (.cells (e.cells tv).toArray 31) = w0 at *
      clear hW
      refine (cH e tv w0 HQ.out.1 HT_0.out.tc HTR_0.out 0 (Or.inl ⟨hf, rfl⟩)).mono ?_
      rintro r w1 ⟨rfl, b1⟩
      have HM_1 : Hid (MD w1 B F M) := HM_0.out.step b1
      have HE_1 : Hid (VA w1 w.heap.size (e.cells tv) 31) := HE_0.out.step b1
      have HTR_1 : Hid (Tr w1 tv e.ts) := HTR_0.out.step b1
      have HT_1 : Hid (TBL w1) := HT_0.out.step b1
      have BB_1 := hI_ (BB_0.out.trans (b1.mono BB_0.out.size))
      clear b1 y0 y1 y2 y3 y4 y5 y6 y7 y8 y9 y10 HM_0 HE_0 HTR_0 HT_0 BB_0
      have z0 := HE_1.out.cell 0 (v := .int .u8 (e.op : Int)) rfl
      have z1 := HE_1.out.cell 1 (v := .int .u64 (e.key : Int)) rfl
      have z2 := HE_1.out.cell 2 (v := .int .i64 e.n0) rfl
      have z3 := HE_1.out.cell 3 (v := .int .i64 e.n1) rfl
      have z4 := HE_1.out.cell 4 (v := .int .i64 e.n2) rfl
      have z5 := HE_1.out.cell 5 (v := .int .i64 e.n3) rfl
      have z6 := HE_1.out.cell 6 (v := .int .i64 e.n4) rfl
      have z7 := HE_1.out.cell 7 (v := .int .i64 e.n5) rfl
      have z8 := HE_1.out.cell 8 (v := .int .i64 e.n6) rfl
      have z9 := HE_1.out.cell 9 (v := .int .i64 e.n7) rfl
      have z10 := HE_1.out.cell 10 (v := tv) rfl
      go_wp2_with fail
      refine (dR e.op w1).mono ?_
      rintro r wq ⟨rfl, hwq⟩
      obtain rfl := hwq.symm
      clear hwq
      rw [hd]
      go_wp2_with fail
      refine (jr w1 B F M HM_1.out e.key HQ.out.1.key).mono ?_
      rintro r w2 ⟨rfl, b2⟩
      rw [hu]
      have HM_2 : Hid (MD w2 B F M) := HM_1.out.step b2
      have HE_2 : Hid (VA w2 w.heap.size (e.cells tv) 31) := HE_1.out.step b2
      have HTR_2 : Hid (Tr w2 tv e.ts) := HTR_1.out.step b2
      have HT_2 : Hid (TBL w2) := HT_1.out.step b2
      have BB_2 := hI_ (BB_1.out.trans (b2.mono BB_1.out.size))
      clear b2 z0 z1 z2 z3 z4 z5 z6 z7 z8 z9 z10 HM_1 HE_1 HTR_1 HT_1 BB_1
      have z0 := HE_2.out.cell 0 (v := .int .u8 (e.op : Int)) rfl
      have z1 := HE_2.out.cell 1 (v := .int .u64 (e.key : Int)) rfl
      have z2 := HE_2.out.cell 2 (v := .int .i64 e.n0) rfl
      have z3 := HE_2.out.cell 3 (v := .int .i64 e.n1) rfl
      have z4 := HE_2.out.cell 4 (v := .int .i64 e.n2) rfl
      have z5 := HE_2.out.cell 5 (v := .int .i64 e.n3) rfl
      have z6 := HE_2.out.cell 6 (v := .int .i64 e.n4) rfl
      have z7 := HE_2.out.cell 7 (v := .int .i64 e.n5) rfl
      have z8 := HE_2.out.cell 8 (v := .int .i64 e.n6) rfl
      have z9 := HE_2.out.cell 9 (v := .int .i64 e.n7) rfl
      have z10 := HE_2.out.cell 10 (v := tv) rfl
      have c6 := HM_2.out.va.cell 6 (v := .bool M.uw) rfl
      go_wp2_with fail
      go_ret
      exact ⟨rfl, BB_2.out⟩
     | false =>
      rw [if_neg (by simp)]
      cases hw : M.uw with
      | true =>
       rw [if_pos rfl]
       go_enter Tryz.func38, Tryz.ntmps38
       go_wp2_with fail
       generalize hW : w.alloc (.cells (e.cells tv).toArray 31) = w0 at *
       clear hW
       refine (cH e tv w0 HQ.out.1 HT_0.out.tc HTR_0.out 0 (Or.inl ⟨hf, rfl⟩)).mono ?_
       rintro r w1 ⟨rfl, b1⟩
       have HM_1 : Hid (MD w1 B F M) := HM_0.out.step b1
       have HE_1 : Hid (VA w1 w.heap.size (e.cells tv) 31) := HE_0.out.step b1
       have HTR_1 : Hid (Tr w1 tv e.ts) := HTR_0.out.step b1
       have HT_1 : Hid (TBL w1) := HT_0.out.step b1
       have BB_1 := hI_ (BB_0.out.trans (b1.mono BB_0.out.size))
       clear b1 y0 y1 y2 y3 y4 y5 y6 y7 y8 y9 y10 HM_0 HE_0 HTR_0 HT_0 BB_0
       have z0 := HE_1.out.cell 0 (v := .int .u8 (e.op : Int)) rfl
       have z1 := HE_1.out.cell 1 (v := .int .u64 (e.key : Int)) rfl
       have z2 := HE_1.out.cell 2 (v := .int .i64 e.n0) rfl
       have z3 := HE_1.out.cell 3 (v := .int .i64 e.n1) rfl
       have z4 := HE_1.out.cell 4 (v := .int .i64 e.n2) rfl
       have z5 := HE_1.out.cell 5 (v := .int .i64 e.n3) rfl
       have z6 := HE_1.out.cell 6 (v := .int .i64 e.n4) rfl
       have z7 := HE_1.out.cell 7 (v := .int .i64 e.n5) rfl
       have z8 := HE_1.out.cell 8 (v := .int .i64 e.n6) rfl
       have z9 := HE_1.out.cell 9 (v := .int .i64 e.n7) rfl
       have z10 := HE_1.out.cell 10 (v := tv) rfl
       go_wp2_with fail
       refine (dR e.op w1).mono ?_
       rintro r wq ⟨rfl, hwq⟩
       obtain rfl := hwq.symm
       clear hwq
       rw [hd]
       go_wp2_with fail
       refine (jr w1 B F M HM_1.out e.key HQ.out.1.key).mono ?_
       rintro r w2 ⟨rfl, b2⟩
       rw [hu]
       have HM_2 : Hid (MD w2 B F M) := HM_1.out.step b2
       have HE_2 : Hid (VA w2 w.heap.size (e.cells tv) 31) := HE_1.out.step b2
       have HTR_2 : Hid (Tr w2 tv e.ts) := HTR_1.out.step b2
       have HT_2 : Hid (TBL w2) := HT_1.out.step b2
       have BB_2 := hI_ (BB_1.out.trans (b2.mono BB_1.out.size))
       clear b2 z0 z1 z2 z3 z4 z5 z6 z7 z8 z9 z10 HM_1 HE_1 HTR_1 HT_1 BB_1
       have z0 := HE_2.out.cell 0 (v := .int .u8 (e.op : Int)) rfl
       have z1 := HE_2.out.cell 1 (v := .int .u64 (e.key : Int)) rfl
       have z2 := HE_2.out.cell 2 (v := .int .i64 e.n0) rfl
       have z3 := HE_2.out.cell 3 (v := .int .i64 e.n1) rfl
       have z4 := HE_2.out.cell 4 (v := .int .i64 e.n2) rfl
       have z5 := HE_2.out.cell 5 (v := .int .i64 e.n3) rfl
       have z6 := HE_2.out.cell 6 (v := .int .i64 e.n4) rfl
       have z7 := HE_2.out.cell 7 (v := .int .i64 e.n5) rfl
       have z8 := HE_2.out.cell 8 (v := .int .i64 e.n6) rfl
       have z9 := HE_2.out.cell 9 (v := .int .i64 e.n7) rfl
       have z10 := HE_2.out.cell 10 (v := tv) rfl
       have c6 := HM_2.out.va.cell 6 (v := .bool M.uw) rfl
       rw [hw] at c6
       go_wp2_with fail
       go_ret
       exact ⟨rfl, BB_2.out⟩
      | false =>
       rw [if_neg (by simp)]
       go_enter Tryz.func38, Tryz.ntmps38
       go_wp2_with fail
       generalize hW : w.alloc (.cells (e.cells tv).toArray 31) = w0 at *
       clear hW
       refine (cH e tv w0 HQ.out.1 HT_0.out.tc HTR_0.out 0 (Or.inl ⟨hf, rfl⟩)).mono ?_
       rintro r w1 ⟨rfl, b1⟩
       have HM_1 : Hid (MD w1 B F M) := HM_0.out.step b1
       have HE_1 : Hid (VA w1 w.heap.size (e.cells tv) 31) := HE_0.out.step b1
       have HTR_1 : Hid (Tr w1 tv e.ts) := HTR_0.out.step b1
       have HT_1 : Hid (TBL w1) := HT_0.out.step b1
       have BB_1 := hI_ (BB_0.out.trans (b1.mono BB_0.out.size))
       clear b1 y0 y1 y2 y3 y4 y5 y6 y7 y8 y9 y10 HM_0 HE_0 HTR_0 HT_0 BB_0
       have z0 := HE_1.out.cell 0 (v := .int .u8 (e.op : Int)) rfl
       have z1 := HE_1.out.cell 1 (v := .int .u64 (e.key : Int)) rfl
       have z2 := HE_1.out.cell 2 (v := .int .i64 e.n0) rfl
       have z3 := HE_1.out.cell 3 (v := .int .i64 e.n1) rfl
       have z4 := HE_1.out.cell 4 (v := .int .i64 e.n2) rfl
       have z5 := HE_1.out.cell 5 (v := .int .i64 e.n3) rfl
       have z6 := HE_1.out.cell 6 (v := .int .i64 e.n4) rfl
       have z7 := HE_1.out.cell 7 (v := .int .i64 e.n5) rfl
       have z8 := HE_1.out.cell 8 (v := .int .i64 e.n6) rfl
       have z9 := HE_1.out.cell 9 (v := .int .i64 e.n7) rfl
       have z10 := HE_1.out.cell 10 (v := tv) rfl
       go_wp2_with fail
       refine (dR e.op w1).mono ?_
       rintro r wq ⟨rfl, hwq⟩
       obtain rfl := hwq.symm
       clear hwq
       rw [hd]
       go_wp2_with fail
       refine (jr w1 B F M HM_1.out e.key HQ.out.1.key).mono ?_
       rintro r w2 ⟨rfl, b2⟩
       rw [hu]
       have HM_2 : Hid (MD w2 B F M) := HM_1.out.step b2
       have HE_2 : Hid (VA w2 w.heap.size (e.cells tv) 31) := HE_1.out.step b2
       have HTR_2 : Hid (Tr w2 tv e.ts) := HTR_1.out.step b2
       have HT_2 : Hid (TBL w2) := HT_1.out.step b2
       have BB_2 := hI_ (BB_1.out.trans (b2.mono BB_1.out.size))
       clear b2 z0 z1 z2 z3 z4 z5 z6 z7 z8 z9 z10 HM_1 HE_1 HTR_1 HT_1 BB_1
       have z0 := HE_2.out.cell 0 (v := .int .u8 (e.op : Int)) rfl
       have z1 := HE_2.out.cell 1 (v := .int .u64 (e.key : Int)) rfl
       have z2 := HE_2.out.cell 2 (v := .int .i64 e.n0) rfl
       have z3 := HE_2.out.cell 3 (v := .int .i64 e.n1) rfl
       have z4 := HE_2.out.cell 4 (v := .int .i64 e.n2) rfl
       have z5 := HE_2.out.cell 5 (v := .int .i64 e.n3) rfl
       have z6 := HE_2.out.cell 6 (v := .int .i64 e.n4) rfl
       have z7 := HE_2.out.cell 7 (v := .int .i64 e.n5) rfl
       have z8 := HE_2.out.cell 8 (v := .int .i64 e.n6) rfl
       have z9 := HE_2.out.cell 9 (v := .int .i64 e.n7) rfl
       have z10 := HE_2.out.cell 10 (v := tv) rfl
       have c6 := HM_2.out.va.cell 6 (v := .bool M.uw) rfl
       rw [hw] at c6
       have HV0 := hI_ (aa w2 ([.pointer none, .int .i64 0] : List Value) 148)
       have HBA := hI_ ((Below.refl w2.heap.size w2).alloc (Nat.le_refl _) (.cells #[.pointer none, .int .i64 0] 148))
       go_upto_region 12 with (refine stA rfl 148 _ _ rfl w2.heap.size (by rfl) ([.pointer none, .int .i64 0] : List Value) ([.pointer (some ⟨F.pm, 0, none⟩), .int .i64 0] : List Value) (by rfl) 148 HV0.out uu rfl (by intro v hv; simp at hv; rcases hv with rfl | rfl <;> rfl) ?_; intro w3 hv3 hu3)
       have b3 := hu3.bel HBA.out (Nat.le_refl _)
       have HM_3 : Hid (MD w3 B F M) := HM_2.out.step b3
       have HE_3 : Hid (VA w3 w.heap.size (e.cells tv) 31) := HE_2.out.step b3
       have HTR_3 : Hid (Tr w3 tv e.ts) := HTR_2.out.step b3
       have HT_3 : Hid (TBL w3) := HT_2.out.step b3
       have BB_3 := hI_ (BB_2.out.trans (b3.mono BB_2.out.size))
       have HR_3 : Hid (RO w3 w2.heap.size F.pm 0) := hv3
       have HSZ : Hid (6 ≤ w2.heap.size) := (show 6 ≤ w2.heap.size from by have := HT_2.out.lt; omega)
       have HLW : Hid (w.heap.size ≤ w2.heap.size) := BB_2.out.size
       clear b3 hv3 hu3 HV0 HBA c6 z0 z1 z2 z3 z4 z5 z6 z7 z8 z9 z10 HM_2 HE_2 HTR_2 HT_2 BB_2
       generalize w2.heap.size = rp at *
       have z0 := HE_3.out.cell 0 (v := .int .u8 (e.op : Int)) rfl
       have z1 := HE_3.out.cell 1 (v := .int .u64 (e.key : Int)) rfl
       have z2 := HE_3.out.cell 2 (v := .int .i64 e.n0) rfl
       have z3 := HE_3.out.cell 3 (v := .int .i64 e.n1) rfl
       have z4 := HE_3.out.cell 4 (v := .int .i64 e.n2) rfl
       have z5 := HE_3.out.cell 5 (v := .int .i64 e.n3) rfl
       have z6 := HE_3.out.cell 6 (v := .int .i64 e.n4) rfl
       have z7 := HE_3.out.cell 7 (v := .int .i64 e.n5) rfl
       have z8 := HE_3.out.cell 8 (v := .int .i64 e.n6) rfl
       have z9 := HE_3.out.cell 9 (v := .int .i64 e.n7) rfl
       have z10 := HE_3.out.cell 10 (v := tv) rfl
       go_wp2_with fail
       refine (tw w3 B F M HM_3.out rp 0 HR_3.out e HQ.out.1 tv HTR_3.out HQ.out.2 HT_3.out HSZ.out HOP.out).mono ?_
       rintro r w4 ⟨rfl, h1, h2⟩
       have HR_4 : Hid (RO w4 rp F.pm (askL M 0 e)) := h1
       have BB_4 : Hid (Below w.heap.size w w4) := BB_3.out.trans (h2.below (by have := BB_3.out.size; omega) (fun i hi => by have := HLW.out; omega))
       have c1 := VA.cell HR_4.out 1 (v := .int .i64 (askL M 0 e)) rfl
       clear h1 h2 z0 z1 z2 z3 z4 z5 z6 z7 z8 z9 z10
       go_wp2_with fail
       go_ret
       exact ⟨rfl, BB_4.out⟩)
 ·rw [if_pos (Or.inl (by cases f; rfl; exact absurd (hform.1 rfl) hf))]
  go_enter Tryz.func38, Tryz.ntmps38
  go_wp2_with fail
  generalize hW : w.alloc (.cells (e.cells tv).toArray 31) = w0 at *
  clear hW
  refine (cH e tv w0 HQ.out.1 HT_0.out.tc HTR_0.out 3 (Or.inr ⟨hf, rfl⟩)).mono ?_
  rintro r w1 ⟨rfl, b1⟩
  have HM_1 : Hid (MD w1 B F M) := HM_0.out.step b1
  have HE_1 : Hid (VA w1 w.heap.size (e.cells tv) 31) := HE_0.out.step b1
  have HTR_1 : Hid (Tr w1 tv e.ts) := HTR_0.out.step b1
  have HT_1 : Hid (TBL w1) := HT_0.out.step b1
  have BB_1 := hI_ (BB_0.out.trans (b1.mono BB_0.out.size))
  clear b1 y0 y1 y2 y3 y4 y5 y6 y7 y8 y9 y10 HM_0 HE_0 HTR_0 HT_0 BB_0
  have z0 := HE_1.out.cell 0 (v := .int .u8 (e.op : Int)) rfl
  have z1 := HE_1.out.cell 1 (v := .int .u64 (e.key : Int)) rfl
  have z2 := HE_1.out.cell 2 (v := .int .i64 e.n0) rfl
  have z3 := HE_1.out.cell 3 (v := .int .i64 e.n1) rfl
  have z4 := HE_1.out.cell 4 (v := .int .i64 e.n2) rfl
  have z5 := HE_1.out.cell 5 (v := .int .i64 e.n3) rfl
  have z6 := HE_1.out.cell 6 (v := .int .i64 e.n4) rfl
  have z7 := HE_1.out.cell 7 (v := .int .i64 e.n5) rfl
  have z8 := HE_1.out.cell 8 (v := .int .i64 e.n6) rfl
  have z9 := HE_1.out.cell 9 (v := .int .i64 e.n7) rfl
  have z10 := HE_1.out.cell 10 (v := tv) rfl
  go_wp2_with fail
  go_ret
  exact ⟨rfl, BB_1.out⟩
theorem uZ : ∀ v ∈ ([.int .u8 0, .int .u64 0, .int .i64 0, .int .i64 0, .int .i64 0, .int .i64 0, .int .i64 0, .int .i64 0, .int .i64 0, .int .i64 0, .slice none 0 0] : List Value), v.oneCell' = true := by
 intro v hv
 simp at hv
 rcases hv with rfl | rfl | rfl | rfl <;> rfl
set_option maxRecDepth 100000 in
theorem mu (w : World) (B : Nat) (F : FB) (M : PM) (hM : MD w B F M) (e : EV) (he : e.ok) (tv : Value) (R : Tr w tv e.ts) (hno : ∀ n c, tv = .slice none n c → c = 0) (T : TBL w) (f : Bool) (hform : f = true ↔ e.e8.form) (hno2 : refL M e f ≠ 0) :
  Calls Tryz.prog 19 #[.pointer (some ⟨F.pm, 0, none⟩), .agg (e.cells tv).toArray] w fun r w' => r = .returned (.tuple #[.agg ([.int .u8 0, .int .u64 0, .int .i64 0, .int .i64 0, .int .i64 0, .int .i64 0, .int .i64 0, .int .i64 0, .int .i64 0, .int .i64 0, .slice none 0 0] : List Value).toArray, .int .i64 0, .int .i64 (refL M e f)]) ∧ Below w.heap.size w w' := by
 obtain ⟨er, her⟩ : ∃ x, x = refL M e f := ⟨_, rfl⟩
 have e1 : (er != 0) = true := by rw [her]; simpa using hno2
 rw [← her]
 have HER : Hid (er = refL M e f) := her
 clear her hno2
 have b0 := (Below.refl w.heap.size w).alloc (Nat.le_refl _) (.cells (e.cells tv).toArray 31)
 have b1 := b0.alloc (by simp) (.cells #[.int .u8 0, .int .u64 0, .int .i64 0, .int .i64 0, .int .i64 0, .int .i64 0, .int .i64 0, .int .i64 0, .int .i64 0, .int .i64 0, .slice none 0 0] 31)
 have V0 := (aa w (e.cells tv) 31).alloc (.cells #[.int .u8 0, .int .u64 0, .int .i64 0, .int .i64 0, .int .i64 0, .int .i64 0, .int .i64 0, .int .i64 0, .int .i64 0, .int .i64 0, .slice none 0 0] 31)
 have hv1 := aa (w.alloc (.cells (e.cells tv).toArray 31)) ([.int .u8 0, .int .u64 0, .int .i64 0, .int .i64 0, .int .i64 0, .int .i64 0, .int .i64 0, .int .i64 0, .int .i64 0, .int .i64 0, .slice none 0 0] : List Value) 31
 rw [World.size_alloc] at hv1
 have BB_0 := hI_ b1
 have HM_0 : Hid (MD _ B F M) := hM.step b1
 have HE_0 := hI_ V0
 have HV_0 := hI_ hv1
 have HTR_0 : Hid (Tr _ tv e.ts) := R.step b1
 have HT_0 : Hid (TBL _) := T.step b1
 have HQ : Hid (e.ok ∧ (∀ n c, tv = .slice none n c → c = 0) ∧ (f = true ↔ e.e8.form)) := ⟨he, hno, hform⟩
 clear b0 b1 V0 hv1 hM R T he hno hform
 go_enter Tryz.func19, Tryz.ntmps19
 go_upto_region 1 with fail
 generalize hW : (w.alloc (.cells (e.cells tv).toArray 31)).alloc (.cells #[.int .u8 0, .int .u64 0, .int .i64 0, .int .i64 0, .int .i64 0, .int .i64 0, .int .i64 0, .int .i64 0, .int .i64 0, .int .i64 0, .slice none 0 0] 31) = w0 at *
 clear hW
 have y0 := HE_0.out.cell 0 (v := .int .u8 (e.op : Int)) rfl
 have y1 := HE_0.out.cell 1 (v := .int .u64 (e.key : Int)) rfl
 have y2 := HE_0.out.cell 2 (v := .int .i64 e.n0) rfl
 have y3 := HE_0.out.cell 3 (v := .int .i64 e.n1) rfl
 have y4 := HE_0.out.cell 4 (v := .int .i64 e.n2) rfl
 have y5 := HE_0.out.cell 5 (v := .int .i64 e.n3) rfl
 have y6 := HE_0.out.cell 6 (v := .int .i64 e.n4) rfl
 have y7 := HE_0.out.cell 7 (v := .int .i64 e.n5) rfl
 have y8 := HE_0.out.cell 8 (v := .int .i64 e.n6) rfl
 have y9 := HE_0.out.cell 9 (v := .int .i64 e.n7) rfl
 have y10 := HE_0.out.cell 10 (v := tv) rfl
 go_wp2_with fail
 refine (gV w0 B F M HM_0.out e HQ.out.1 tv HTR_0.out HQ.out.2.1 HT_0.out f HQ.out.2.2).mono ?_
 rintro r w1 ⟨rfl, b1⟩
 have HM_1 : Hid (MD w1 B F M) := HM_0.out.step b1
 have HE_1 : Hid (VA w1 w.heap.size (e.cells tv) 31) := HE_0.out.step b1
 have HV_1 : Hid (VA w1 (w.heap.size + 1) ([.int .u8 0, .int .u64 0, .int .i64 0, .int .i64 0, .int .i64 0, .int .i64 0, .int .i64 0, .int .i64 0, .int .i64 0, .int .i64 0, .slice none 0 0] : List Value) 31) := HV_0.out.step b1
 have HTR_1 : Hid (Tr w1 tv e.ts) := HTR_0.out.step b1
 have HT_1 : Hid (TBL w1) := HT_0.out.step b1
 have BB_1 := hI_ (BB_0.out.trans (b1.mono BB_0.out.size))
 clear b1 HM_0 HE_0 HV_0 HTR_0 HT_0 BB_0
 clear y0 y1 y2 y3 y4 y5 y6 y7 y8 y9 y10
 rw [← HER.out]
 go_wp2_with (refine stA rfl 31 _ _ rfl (w.heap.size + 1) (by rfl) ([.int .u8 0, .int .u64 0, .int .i64 0, .int .i64 0, .int .i64 0, .int .i64 0, .int .i64 0, .int .i64 0, .int .i64 0, .int .i64 0, .slice none 0 0] : List Value) ([.int .u8 0, .int .u64 0, .int .i64 0, .int .i64 0, .int .i64 0, .int .i64 0, .int .i64 0, .int .i64 0, .int .i64 0, .int .i64 0, .slice none 0 0] : List Value) (by rfl) 31 HV_1.out ai rfl uZ ?_; intro wf vf uf)
 have hld := run_loadVar_row (P := Tryz.prog) wf (w.heap.size + 1) 31 31 _ (0, 0) _ vf.blk Tryz.underlying31 rfl ai
 exact bodyPost_ret (v := .tuple #[.agg ([.int .u8 0, .int .u64 0, .int .i64 0, .int .i64 0, .int .i64 0, .int .i64 0, .int .i64 0, .int .i64 0, .int .i64 0, .int .i64 0, .slice none 0 0] : List Value).toArray, .int .i64 0, .int .i64 er]) (by simp [results, Tryz.results19, asAddr, hld]) rfl ⟨rfl, uf.bel BB_1.out (by omega)⟩
set_option maxRecDepth 100000 in
theorem gU (w : World) (B : Nat) (F : FB) (M : PM) (hM : MD w B F M) (e : EV) (he : e.ok) (tv : Value) (R : Tr w tv e.ts) (hno : ∀ n c, tv = .slice none n c → c = 0) (T : TBL w) (f : Bool) (hform : f = true ↔ e.e8.form) (hyes : refL M e f = 0) (h12 : e.op ≠ 12) (hlen : e.ts.length ≤ 8796093022208) :
  Calls Tryz.prog 19 #[.pointer (some ⟨F.pm, 0, none⟩), .agg (e.cells tv).toArray] w fun r w' => (∃ u, r = .returned (.tuple #[.agg (e.cells u).toArray, .int .i64 e.mv, .int .i64 0]) ∧ OwnT w' w.heap.size u e.ts) ∧ Below w.heap.size w w' := by
 have e12 : ((e.op : Int) == 12) = false := by simpa using fun h2 : (e.op : Int) = 12 => h12 (by omega)
 have HLEN : Hid (e.ts.length ≤ 8796093022208) := hlen
 clear h12 hlen
 have b0 := (Below.refl w.heap.size w).alloc (Nat.le_refl _) (.cells (e.cells tv).toArray 31)
 have b1 := b0.alloc (by simp) (.cells #[.int .u8 0, .int .u64 0, .int .i64 0, .int .i64 0, .int .i64 0, .int .i64 0, .int .i64 0, .int .i64 0, .int .i64 0, .int .i64 0, .slice none 0 0] 31)
 have V0 := (aa w (e.cells tv) 31).alloc (.cells #[.int .u8 0, .int .u64 0, .int .i64 0, .int .i64 0, .int .i64 0, .int .i64 0, .int .i64 0, .int .i64 0, .int .i64 0, .int .i64 0, .slice none 0 0] 31)
 have hv1 := aa (w.alloc (.cells (e.cells tv).toArray 31)) ([.int .u8 0, .int .u64 0, .int .i64 0, .int .i64 0, .int .i64 0, .int .i64 0, .int .i64 0, .int .i64 0, .int .i64 0, .int .i64 0, .slice none 0 0] : List Value) 31
 rw [World.size_alloc] at hv1
 have BB_0 := hI_ b1
 have HM_0 : Hid (MD _ B F M) := hM.step b1
 have HE_0 := hI_ V0
 have HV_0 := hI_ hv1
 have HTR_0 : Hid (Tr _ tv e.ts) := R.step b1
 have HT_0 : Hid (TBL _) := T.step b1
 have HQ : Hid (e.ok ∧ (∀ n c, tv = .slice none n c → c = 0) ∧ (f = true ↔ e.e8.form)) := ⟨he, hno, hform⟩
 clear b0 b1 V0 hv1 hM R T he hno hform
 go_enter Tryz.func19, Tryz.ntmps19
 go_upto_region 1 with fail
 generalize hW : (w.alloc (.cells (e.cells tv).toArray 31)).alloc (.cells #[.int .u8 0, .int .u64 0, .int .i64 0, .int .i64 0, .int .i64 0, .int .i64 0, .int .i64 0, .int .i64 0, .int .i64 0, .int .i64 0, .slice none 0 0] 31) = w0 at *
 clear hW
 have y0 := HE_0.out.cell 0 (v := .int .u8 (e.op : Int)) rfl
 have y1 := HE_0.out.cell 1 (v := .int .u64 (e.key : Int)) rfl
 have y2 := HE_0.out.cell 2 (v := .int .i64 e.n0) rfl
 have y3 := HE_0.out.cell 3 (v := .int .i64 e.n1) rfl
 have y4 := HE_0.out.cell 4 (v := .int .i64 e.n2) rfl
 have y5 := HE_0.out.cell 5 (v := .int .i64 e.n3) rfl
 have y6 := HE_0.out.cell 6 (v := .int .i64 e.n4) rfl
 have y7 := HE_0.out.cell 7 (v := .int .i64 e.n5) rfl
 have y8 := HE_0.out.cell 8 (v := .int .i64 e.n6) rfl
 have y9 := HE_0.out.cell 9 (v := .int .i64 e.n7) rfl
 have y10 := HE_0.out.cell 10 (v := tv) rfl
 go_wp2_with fail
 refine (gV w0 B F M HM_0.out e HQ.out.1 tv HTR_0.out HQ.out.2.1 HT_0.out f HQ.out.2.2).mono ?_
 rintro r w1 ⟨rfl, b1⟩
 have HM_1 : Hid (MD w1 B F M) := HM_0.out.step b1
 have HE_1 : Hid (VA w1 w.heap.size (e.cells tv) 31) := HE_0.out.step b1
 have HV_1 : Hid (VA w1 (w.heap.size + 1) ([.int .u8 0, .int .u64 0, .int .i64 0, .int .i64 0, .int .i64 0, .int .i64 0, .int .i64 0, .int .i64 0, .int .i64 0, .int .i64 0, .slice none 0 0] : List Value) 31) := HV_0.out.step b1
 have HTR_1 : Hid (Tr w1 tv e.ts) := HTR_0.out.step b1
 have HT_1 : Hid (TBL w1) := HT_0.out.step b1
 have BB_1 := hI_ (BB_0.out.trans (b1.mono BB_0.out.size))
 clear b1 HM_0 HE_0 HV_0 HTR_0 HT_0 BB_0
 clear y0 y1 y2 y3 y4 y5 y6 y7 y8 y9 y10
 rw [hyes]
 have c10 := HE_1.out.cell 10 (v := tv) rfl
 go_wp2_with fail
 refine (jB tv e.ts w1 HTR_1.out HQ.out.2.1 HLEN.out).mono ?_
 rintro r w2 ⟨⟨u, rfl, ou⟩, b2⟩
 obtain ⟨ua, un, uc, rfl⟩ := ou.form
 have OU_2 : Hid (OwnT w2 w.heap.size (.slice ua un uc) e.ts) := ou.lower BB_1.out.size
 clear ou c10
 have HM_2 : Hid (MD w2 B F M) := HM_1.out.step b2
 have HE_2 : Hid (VA w2 w.heap.size (e.cells tv) 31) := HE_1.out.step b2
 have HV_2 : Hid (VA w2 (w.heap.size + 1) ([.int .u8 0, .int .u64 0, .int .i64 0, .int .i64 0, .int .i64 0, .int .i64 0, .int .i64 0, .int .i64 0, .int .i64 0, .int .i64 0, .slice none 0 0] : List Value) 31) := HV_1.out.step b2
 have HTR_2 : Hid (Tr w2 tv e.ts) := HTR_1.out.step b2
 have HT_2 : Hid (TBL w2) := HT_1.out.step b2
 have BB_2 := hI_ (BB_1.out.trans (b2.mono BB_1.out.size))
 clear b2 HM_1 HE_1 HV_1 HTR_1 HT_1 BB_1
 have hUF : Hid (∃ a n c, Value.slice ua un uc = Value.slice a n c) := ⟨_, _, _, rfl⟩
 have f10 := HE_2.out.free 10
 have hbk := HE_2.out.blk
 have c10b := HE_2.out.cell 10 (v := tv) rfl
 have hset : VA (w2.setCell ⟨w.heap.size, 10, none⟩ (.slice ua un uc)) w.heap.size (e.cells (.slice ua un uc)) 31 := HE_2.out.set 10 (.slice ua un uc)
 have huq := ax w2 w.heap.size 10 (.slice ua un uc)
 have HE_3 := hI_ hset
 have HV_3 : Hid (VA (w2.setCell ⟨w.heap.size, 10, none⟩ (.slice ua un uc)) (w.heap.size + 1) ([.int .u8 0, .int .u64 0, .int .i64 0, .int .i64 0, .int .i64 0, .int .i64 0, .int .i64 0, .int .i64 0, .int .i64 0, .int .i64 0, .slice none 0 0] : List Value) 31) := HV_2.out.upd huq (by omega)
 have BB_3 := hI_ (huq.bel BB_2.out (Nat.le_refl _))
 have OU_3 : Hid (OwnT (w2.setCell ⟨w.heap.size, 10, none⟩ (.slice ua un uc)) w.heap.size (.slice ua un uc) e.ts) := OwnT.updV OU_2.out HE_2.out (by decide) huq
 have z0 := HE_3.out.cell 0 (v := .int .u8 (e.op : Int)) rfl
 clear hset huq
 go_upto_region 7 with fail
 generalize hW3 : w2.setCell ⟨w.heap.size, 10, none⟩ (.slice ua un uc) = w3 at *
 clear hW3 f10 hbk c10b z0 HM_2 HE_2 HV_2 HTR_2 HT_2 BB_2 OU_2
 refine wp_region_noPanic ?_
 refine wp_region_held_drew (S := fun V => VA V w.heap.size (e.cells (.slice ua un uc)) 31) (by kernel_rfl) (VA.drew HE_3.out) ?_
 intro hHeld
 have bz := (Below.refl w3.heap.size w3).drew
 have HE_z := hI_ (HE_3.out.step bz)
 have HV_z := hI_ (HV_3.out.step bz)
 have OU_z := hI_ (OU_3.out.step bz)
 have BB_z := hI_ (BB_3.out.trans (bz.mono BB_3.out.size))
 generalize w3.drew = wz at *
 clear bz
 refine tK 0 43 (.agg (e.cells (.slice ua un uc)).toArray) (by exact rfl) (yieldsIf_load_mid (by rfl) _ _ rfl _ _ rfl _ _ (fun wq hS => (fun j v hj => by rw [Nat.zero_add]; exact VA.cell hS j hj)) Tryz.underlying31 rfl ai) ?_
 try simp only [nrm]
 refine tK 1 44 (.agg (e.cells (.slice ua un uc)).toArray) (by exact rfl) (yieldsIf_load_mid (by rfl) _ _ rfl _ _ rfl _ _ (fun wq hS => (fun j v hj => by rw [Nat.zero_add]; exact VA.cell hS j hj)) Tryz.underlying31 rfl ai) ?_
 try simp only [nrm]
 clear hHeld
 refine rdy 2 (fun K hK => ?_)
 go_simp
 refine Calls.mono (pi e (.slice ua un uc) wz) ?_
 rintro e wm ⟨rfl, bm⟩
 have HE_m := hI_ (HE_z.out.step bm)
 have HV_m := hI_ (HV_z.out.step bm)
 have OU_m := hI_ (OU_z.out.step bm)
 have BB_m := hI_ (BB_z.out.trans (bm.mono BB_z.out.size))
 clear bm
 go_wp2_with fail
 refine hK.out _ _ (HE_m.out) (fun hHeld => ?_)
 try simp only [nrm]
 clear hK K
 refine rdy 3 (fun K hK => ?_)
 refine eC (by rfl) rfl 31 _ _ rfl (w.heap.size + 1) (by rfl) ([.int .u8 0, .int .u64 0, .int .i64 0, .int .i64 0, .int .i64 0, .int .i64 0, .int .i64 0, .int .i64 0, .int .i64 0, .int .i64 0, .slice none 0 0] : List Value) (e.cells (.slice ua un uc)) (by rfl) 31 HV_m.out ai rfl (EV.one e hUF.out) ?_
 intro wf vf uf
 have BB_f := hI_ (uf.bel BB_m.out (by omega))
 have OU_f : Hid (OwnT wf w.heap.size (.slice ua un uc) e.ts) := OwnT.updV OU_m.out HV_m.out (by decide) uf
 refine hK.out _ _ (HE_m.out.upd uf (by omega)) (fun hHeld2 => ?_)
 clear hK K hHeld
 try simp only [nrm]
 refine tK 4 5 (.int .i64 e.mv) (by exact rfl) (Or.inl ⟨by rfl, ?_⟩) ?_
 ·intro wq hS
  go_simp
 try simp only [nrm]
 refine tK 5 6 (.int .i64 0) (by exact rfl) (Or.inl ⟨by rfl, ?_⟩) ?_
 ·intro wq hS
  go_simp
 try simp only [nrm]
 refine wpAnyH_done (by kernel_rfl) ?_ _
 refine NoPanic.normal ?_
 clear hHeld2
 go_wp2_with fail
 have hld := run_loadVar_row (P := Tryz.prog) wf (w.heap.size + 1) 31 31 _ (0, 0) _ vf.blk Tryz.underlying31 rfl ai
 exact bodyPost_ret (v := .tuple #[.agg (e.cells (.slice ua un uc)).toArray, .int .i64 e.mv, .int .i64 0]) (by simp [results, Tryz.results19, asAddr, Act.put, hld]) rfl ⟨⟨(.slice ua un uc), rfl, OU_f.out⟩, BB_f.out⟩
theorem MD.reach_no {w w1 : World} {B : Nat} {F : FB} {M : PM} (h : MD w B F M) {p : Nat} {cs : List Value} {T : TypeId} (v : VA w1 p cs T) (hp : w.heap.size ≤ p) (h1 : T ≠ 208) (h2 : T ≠ 81) : ¬ F.reach w1 B p := fun hr => by
 obtain ⟨sv, hV⟩ := h.cbm
 rcases hr with hr | hr | hr | ⟨_, cs', fr, hr⟩ | ⟨_, cs', fr, hr⟩
 ·have := h.core_lt hr; omega
 ·have := hV.lt; omega
 ·obtain ⟨es, c, e⟩ := (h.catO hV).1
  have := (Array.getElem?_eq_some_iff.1 e).1
  omega
 ·have := v.blk.symm.trans hr
  simp only [Option.some.injEq, Obj.cells.injEq] at this
  exact h2 this.2.1
 ·have := v.blk.symm.trans hr
  simp only [Option.some.injEq, Obj.cells.injEq] at this
  exact h1 this.2.1
theorem FB.reach_back {w w1 : World} {B : Nat} {F : FB} {j : Nat} (b : Below w.heap.size w w1) (hl : j < w.heap.size) (h : F.reach w1 B j) : F.reach w B j := by
 rcases h with h | h | h | ⟨hB, cs, fr, h⟩ | ⟨hB, cs, fr, h⟩
 ·exact Or.inl h
 ·exact Or.inr (Or.inl h)
 ·exact Or.inr (Or.inr (Or.inl h))
 ·exact Or.inr (Or.inr (Or.inr (Or.inl ⟨hB, cs, fr, by rw [← b.block j hl]; exact h⟩)))
 ·exact Or.inr (Or.inr (Or.inr (Or.inr ⟨hB, cs, fr, by rw [← b.block j hl]; exact h⟩)))
set_option maxRecDepth 100000 in
theorem mM (w : World) (B : Nat) (F : FB) (M M' : PM) (hM : MD w B F M) (e : EV) (he : e.ok) (tv : Value) (R : Tr w tv e.ts) (hno : ∀ n c, tv = .slice none n c → c = 0) (T : TBL w) (f : Bool) (hform : f = true ↔ e.e8.form) (hday : ofDay e.op = false) (h12 : e.op ≠ 12) (hyes : refL M e f = 0) (hlen : e.ts.length ≤ 8796093022208)
  (hch : ∀ w1, Below w.heap.size w w1 → Calls Tryz.prog 55 #[.pointer (some ⟨F.pm, 0, none⟩), .agg (e.cells tv).toArray] w1 fun r w' => ∃ F', r = .returned (.tuple #[]) ∧ MD w' B F' M' ∧ F'.pm = F.pm ∧ F'.km = F.km ∧ But (F.reach w1 B) w1 w') (hkl : M'.keys.length < 1000000000000) (hs1 : 0 ≤ M'.seq) (hs2 : M'.seq < 1000000000000000) :
  Calls Tryz.prog 29 #[.pointer (some ⟨F.pm, 0, none⟩), .agg (e.cells tv).toArray] w fun r w' => ∃ F', r = .returned (.int .i64 0) ∧ MD w' B F' { M' with keys := useL M'.keys e.key, seq := M'.seq + 1 } ∧ F'.pm = F.pm ∧ F'.km = F.km ∧ But (F.reach w B) w w' := by
 have HTF : Hid (∃ a n c, tv = Value.slice a n c) := (show ∃ a n c, tv = Value.slice a n c from by obtain ⟨a, c, e, _⟩ := R.form; exact ⟨a, _, c, e⟩)
 have HP : Hid (∀ w1, Below w.heap.size w w1 → _) := fun w1 (b : Below w.heap.size w w1) => gU w1 B F M (hM.step b) e he tv (R.step b) hno (T.step b) f hform hyes h12 hlen
 have HCH := hI_ hch
 have HR : Hid (∀ w1, Below w.heap.size w w1 → Tr w1 tv e.ts) := fun w1 b => R.step b
 have HW : Hid (MD w B F M) := hM
 have HOK : Hid (e.ok ∧ M'.keys.length < 1000000000000) := ⟨he, hkl⟩
 have e12 : ((e.op : Int) == 12) = false := by simpa using fun h2 : (e.op : Int) = 12 => h12 (by omega)
 have b0 := (Below.refl w.heap.size w).alloc (Nat.le_refl _) (.cells (e.cells tv).toArray 31)
 have b1 := b0.alloc (by simp) (.cells #[.int .u8 0, .int .u64 0, .int .i64 0, .int .i64 0, .int .i64 0, .int .i64 0, .int .i64 0, .int .i64 0, .int .i64 0, .int .i64 0, .slice none 0 0] 31)
 have V0 := aa w (e.cells tv) 31
 have hv1 := aa (w.alloc (.cells (e.cells tv).toArray 31)) ([.int .u8 0, .int .u64 0, .int .i64 0, .int .i64 0, .int .i64 0, .int .i64 0, .int .i64 0, .int .i64 0, .int .i64 0, .int .i64 0, .slice none 0 0] : List Value) 31
 rw [World.size_alloc] at hv1
 have y := V0.cell 0 (v := .int .u8 (e.op : Int)) rfl
 have HE_0 := hI_ V0
 have HF_0 := hI_ (V0.alloc (.cells #[.int .u8 0, .int .u64 0, .int .i64 0, .int .i64 0, .int .i64 0, .int .i64 0, .int .i64 0, .int .i64 0, .int .i64 0, .int .i64 0, .slice none 0 0] 31))
 have HV_0 := hI_ hv1
 have BB_0 := hI_ b1
 clear b0 b1 V0 hv1 hM R hno T hform hyes h12 hch hkl he
 go_enter Tryz.func29, Tryz.ntmps29
 go_wp2_with fail
 refine (dR e.op _).mono ?_
 rintro r wq ⟨rfl, hq⟩
 obtain rfl := hq.symm
 clear hq
 rw [hday]
 go_upto_region 4 with (first | (refine ldA rfl 31 _ rfl w.heap.size (by rfl) _ _ HE_0.out _ Tryz.underlying31 rfl ai ?_) | (refine stA rfl 31 _ _ rfl (w.heap.size + 1) (by rfl) ([.int .u8 0, .int .u64 0, .int .i64 0, .int .i64 0, .int .i64 0, .int .i64 0, .int .i64 0, .int .i64 0, .int .i64 0, .int .i64 0, .slice none 0 0] : List Value) (e.cells tv) (by rfl) 31 HV_0.out ai rfl (EV.one e HTF.out) ?_; intro w1 v1 u1))
 have BB_1 : Hid (Below w.heap.size w w1) := u1.bel BB_0.out (by omega)
 have HV_1 := hI_ v1
 have HE_1 : Hid (VA w1 w.heap.size (e.cells tv) 31) := HF_0.out.upd u1 (by omega)
 have z := HV_1.out.cell 0 (v := .int .u8 (e.op : Int)) rfl
 clear v1 u1 y HE_0 HF_0 HV_0 BB_0
 go_wp2_with (refine ldA rfl 31 _ rfl (w.heap.size + 1) (by rfl) _ _ HV_1.out _ Tryz.underlying31 rfl ai ?_)
 refine (HP.out w1 BB_1.out).mono ?_
 rintro r w2 ⟨⟨u, rfl, ou⟩, b2⟩
 obtain ⟨ua, un, uc, rfl⟩ := ou.form
 have BB_2 : Hid (Below w.heap.size w w2) := BB_1.out.trans (b2.mono BB_1.out.size)
 have V2 := aa w2 ([.int .u8 0, .int .u64 0, .int .i64 0, .int .i64 0, .int .i64 0, .int .i64 0, .int .i64 0, .int .i64 0, .int .i64 0, .int .i64 0, .slice none 0 0] : List Value) 31
 have B2 := (Below.refl w2.heap.size w2).alloc (Nat.le_refl _) (.cells #[.int .u8 0, .int .u64 0, .int .i64 0, .int .i64 0, .int .i64 0, .int .i64 0, .int .i64 0, .int .i64 0, .int .i64 0, .int .i64 0, .slice none 0 0] 31)
 have HV_2 := hI_ V2
 have HO_2 : Hid (OwnT _ w1.heap.size (.slice ua un uc) e.ts) := ou.step B2
 have HE_2 := hI_ ((HE_1.out.step b2).step B2)
 have BB_3 := hI_ (BB_2.out.trans (B2.mono BB_2.out.size))
 have s2 := BB_2.out.size
 have l2 := (HE_1.out.step b2).lt
 clear b2 V2 B2 z HV_1 BB_1 ou HE_1
 go_upto_region 9 with (refine stA rfl 31 _ _ rfl w2.heap.size (by rfl) ([.int .u8 0, .int .u64 0, .int .i64 0, .int .i64 0, .int .i64 0, .int .i64 0, .int .i64 0, .int .i64 0, .int .i64 0, .int .i64 0, .slice none 0 0] : List Value) (e.cells (.slice ua un uc)) (by rfl) 31 HV_2.out ai rfl (EV.one e ⟨ua, un, uc, rfl⟩) ?_; intro w3 v3 u3)
 have BB_4 : Hid (Below w.heap.size w w3) := u3.bel BB_3.out s2
 have HV_3 := hI_ v3
 have HO_3 : Hid (OwnT w3 w1.heap.size (.slice ua un uc) e.ts) := OwnT.updV HO_2.out HV_2.out (by decide) u3
 have HE_3 : Hid (VA w3 w.heap.size (e.cells tv) 31) := HE_2.out.upd u3 (by omega)
 clear v3 u3 HV_2 HO_2 HE_2 BB_3 BB_2
 go_wp2_with (first | (refine ldA rfl 31 _ rfl w2.heap.size (by rfl) _ _ HV_3.out _ Tryz.underlying31 rfl ai ?_) | (refine ldA rfl 31 _ rfl w.heap.size (by rfl) _ _ HE_3.out _ Tryz.underlying31 rfl ai ?_))
 refine Calls.mono (ld e.e8 (.slice ua un uc) tv w3 (EV.ok8 HOK.out.1) HO_3.out.tr (HR.out w3 BB_4.out)) ?_
 rintro r w4 ⟨rfl, b4⟩
 have BB_5 : Hid (Below w.heap.size w w4) := BB_4.out.trans (b4.mono BB_4.out.size)
 have HE_4 : Hid (VA w4 w.heap.size (e.cells tv) 31) := HE_3.out.step b4
 clear b4 HV_3 HO_3 HE_3 BB_4
 go_wp2_with (refine ldA rfl 31 _ rfl w.heap.size (by rfl) _ _ HE_4.out _ Tryz.underlying31 rfl ai ?_)
 refine (HCH.out w4 BB_5.out).mono ?_
 rintro r w5 ⟨F', rfl, h1, h2, h3, h4⟩
 have HM_5 : Hid (MD w5 B F' M') := h1
 have HPK : Hid (F'.pm = F.pm ∧ F'.km = F.km) := ⟨h2, h3⟩
 have HB_5 : Hid (But (F.reach w B) w w5) := (af BB_5.out _).trans h4 (fun j hl hj => FB.reach_back BB_5.out hl hj)
 have HE_5 : Hid (VA w5 w.heap.size (e.cells tv) 31) := HE_4.out.but h4 (HW.out.reach_no HE_4.out (Nat.le_refl _) (by decide) (by decide))
 have y := HE_5.out.cell 1 (v := .int .u64 (e.key : Int)) rfl
 rw [← h2]
 clear h1 h2 h3 h4 HE_4 BB_5
 go_wp2_with fail
 refine (s7 w5 B F' M' HM_5.out e.key (by have := HOK.out.1.key; omega) HOK.out.2).mono ?_
 rintro r w6 ⟨rfl, h1, h2⟩
 have HM_6 := hI_ h1
 have HB_6 : Hid (But (F.reach w B) w w6) := HB_5.out.trans h2 (fun j _ hj => Or.inl (Or.inr (Or.inr (Or.inr (Or.inr (Or.inl (hj.trans HPK.out.2)))))))
 clear h1 h2 y HE_5
 have c9 := HM_6.out.va.cell 9 (v := .int .i64 M'.seq) rfl
 have f9 := HM_6.out.va.free 9
 have hbk := HM_6.out.va.blk
 have U7 := ax w6 F'.pm 9 (.int .i64 (M'.seq + 1))
 have V7 : VA (w6.setCell ⟨F'.pm, 9, none⟩ (.int .i64 (M'.seq + 1))) F'.pm (mcells F' { M' with keys := useL M'.keys e.key, seq := M'.seq + 1 }) 100 := HM_6.out.va.set 9 (.int .i64 (M'.seq + 1))
 go_wp2_with fail
 have hw := HM_6.out.wf
 refine bodyPost_ret (v := .int .i64 0) (by simp [results, Tryz.results29, go_sem]) rfl ⟨F', rfl, HM_6.out.setM U7 V7 ⟨rfl, rfl, rfl, rfl, rfl, rfl⟩ ⟨hw.day, hw.acs, hw.sort, hw.len, hw.rats, ⟨by show 0 ≤ M'.seq + 1; omega, by show M'.seq + 1 ≤ _; omega⟩, hw.run, hw.adds⟩, HPK.out.1, HPK.out.2, HB_6.out.trans U7.but (fun j _ hj => Or.inl (Or.inl (hj.trans HPK.out.1)))⟩
set_option maxRecDepth 100000 in
theorem s5 (w : World) (B : Nat) (F : FB) (M : PM) (h : MD w B F M) : Calls Tryz.prog 20 #[.pointer (some ⟨F.pm, 0, none⟩)] w fun e w' => e = .returned (.int .i64 M.seq) ∧ w' = w := by
 have c := h.va.cell 9 (v := .int .i64 M.seq) rfl
 clear h
 go_enter Tryz.func20, Tryz.ntmps20
 go_wp2_with fail
 exact bodyPost_ret (v := .int .i64 M.seq) (by simp [results, Tryz.results20, go_sem]) rfl ⟨rfl, rfl⟩
set_option maxRecDepth 100000 in
theorem rU (w : World) (B : Nat) (F : FB) (M : PM) (h : MD w B F M) : Calls Tryz.prog 33 #[.pointer (some ⟨F.pm, 0, none⟩)] w fun e w' => e = .returned (.int .i64 M.day) ∧ w' = w := by
 have c := h.va.cell 0 (v := .int .i64 M.day) rfl
 clear h
 go_enter Tryz.func33, Tryz.ntmps33
 go_wp2_with fail
 exact bodyPost_ret (v := .int .i64 M.day) (by simp [results, Tryz.results33, go_sem]) rfl ⟨rfl, rfl⟩
def ZA : List Value := [.int .i64 0, .int .i64 0, .int .i64 0, .int .i64 0, .bool false, .int .i64 0, .int .i64 0, .int .i64 0]
set_option maxRecDepth 100000 in
theorem jU (w : World) (B : Nat) (F : FB) (M : PM) (h : MD w B F M) {i : Nat} {a : PA} {x : Nat × Nat} (hi : IsA F M i a x) {n : Int} (hn : a.id = n) : Calls Tryz.prog 14 #[.pointer (some ⟨F.pm, 0, none⟩), .int .i64 n] w fun e w' => e = .returned (.tuple #[.agg a.told.toArray, .int .i64 0]) ∧ Below w.heap.size w w' := by
 have b0 := (Below.refl w.heap.size w).alloc (Nat.le_refl _) (.cells #[.int .i64 0, .int .i64 0, .int .i64 0, .int .i64 0, .bool false, .int .i64 0, .int .i64 0, .int .i64 0] 36)
 have HM := hI_ (h.step b0)
 have HV := hI_ (aa w ZA 36)
 have BB := hI_ b0
 have HI := hI_ hi
 have HN := hI_ hn
 have HX := hI_ ((h.aw hi).step b0)
 have HT : Hid (∀ j u, a.told[j]? = some u → (a.cells x.2)[j]? = some u) := fun j u hj => by
  have e : a.cells x.2 = a.told ++ [.map (some x.2)] := rfl
  rw [e, List.getElem?_append_left (List.getElem?_eq_some_iff.1 hj).1]
  exact hj
 clear b0 h hi hn
 go_enter Tryz.func14, Tryz.ntmps14
 go_wp2_with fail
 refine (bN _ B F M HM.out HI.out HN.out).mono ?_
 rintro e wq ⟨rfl, hq⟩
 obtain rfl := hq.symm
 clear hq
 go_wp2_with (first | (refine wpList_load_mid rfl 36 _ rfl x.1 0 (by rfl) a.told _ (fun j u hj => by rw [Nat.zero_add]; exact HX.out.cell j (HT.out j u hj)) Tryz.underlying36 rfl cm ?_) | (refine stA rfl 36 _ _ rfl w.heap.size (by rfl) ZA a.told (by rfl) 36 HV.out cm rfl (PA.told_one a) ?_; intro wf vf uf))
 have hld := run_loadVar_row (P := Tryz.prog) wf w.heap.size 36 36 _ (0, 0) _ vf.blk Tryz.underlying36 rfl cm
 exact bodyPost_ret (v := .tuple #[.agg a.told.toArray, .int .i64 0]) (by simp [results, Tryz.results14, asAddr, hld]) rfl ⟨rfl, uf.bel BB.out (Nat.le_refl _)⟩
end Go.Proofs.YtjkiplndbcmmbaaGreatDoor