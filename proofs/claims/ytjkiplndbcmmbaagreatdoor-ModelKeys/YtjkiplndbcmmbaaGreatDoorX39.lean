/- texts of the model: Mox Mqb Mqc Mqd -/
import Derived.Test.YtjkiplndbcmmbaaGreatDoorX37
import Derived.Test.YtjkiplndbcmmbaaGreatDoorX38
import Derived.Test.YtjkiplndbcmmbaaGreatDoorX32
set_option linter.unusedVariables false
set_option linter.unusedSimpArgs false
set_option maxHeartbeats 16000000
namespace Go.Proofs.YtjkiplndbcmmbaaGreatDoor
open Go.RowKit Go.Maps
def FB.core (F : FB) (j : Nat) : Prop := j = F.pm ∨ j = F.pl ∨ j = F.ml ∨ j = F.rm ∨ j = F.km ∨ ∃ x ∈ F.ab, j = x.1 ∨ j = x.2
theorem fP {F : FB} {i : Nat} {x : Nat × Nat} (hx : F.ab[i]? = some x) {j : Nat} (h : j = x.1 ∨ j = x.2) : F.core j := Or.inr (Or.inr (Or.inr (Or.inr (Or.inr ⟨x, List.mem_of_getElem? hx, h⟩))))
theorem lV {F : FB} {i : Nat} {x : Nat × Nat} (hx : F.ab[i]? = some x) {j : Nat} (h : j = F.pl ∨ j = F.ml ∨ j = x.1) : F.core j := by
 rcases h with h | h | h
 ·exact Or.inr (Or.inl h)
 ·exact Or.inr (Or.inr (Or.inl h))
 ·exact fP hx (Or.inl h)
theorem iy {F : FB} {i k : Nat} {x y : Nat × Nat} (hx : F.ab[i]? = some x) (hy : F.ab[k]? = some y) {j : Nat} (h : j = F.pl ∨ j = F.ml ∨ j = x.1 ∨ j = y.1) : F.core j := by
 rcases h with h | h | h | h
 ·exact Or.inr (Or.inl h)
 ·exact Or.inr (Or.inr (Or.inl h))
 ·exact fP hx (Or.inl h)
 ·exact fP hy (Or.inl h)
theorem MD.core_lt {w : World} {B : Nat} {F : FB} {M : PM} (h : MD w B F M) {j : Nat} (hj : F.core j) : j < w.heap.size := by
 rcases hj with rfl | rfl | rfl | rfl | rfl | ⟨x, hx, hj⟩
 ·exact h.va.lt
 ·exact h.led.va.lt
 ·obtain ⟨es, c, e⟩ := bW h.led.map
  exact (Array.getElem?_eq_some_iff.1 e).1
 ·exact h.rts.lt
 ·exact h.kys.lt
 ·obtain ⟨i, hi⟩ := List.getElem?_of_mem hx
  have hl := (List.getElem?_eq_some_iff.1 hi).1
  obtain ⟨a, ha⟩ : ∃ a, M.al[i]? = some a := ⟨_, List.getElem?_eq_getElem (by rw [← h.len]; exact hl)⟩
  rcases hj with rfl | rfl
  ·exact (h.acs i a x ha hi).1.lt
  ·exact (h.acs i a x ha hi).2.lt
theorem MD.core_low {w : World} {B : Nat} {F : FB} {M : PM} (h : MD w B F M) {j : Nat} (hj : F.core j) : B ≤ j := by
 have l := h.low
 rcases hj with rfl | rfl | rfl | rfl | rfl | ⟨x, hx, rfl | rfl⟩
 ·exact l.1
 ·exact l.2.1
 ·exact l.2.2.1
 ·exact l.2.2.2.1
 ·exact l.2.2.2.2.1
 ·exact (l.2.2.2.2.2 x hx).1
 ·exact (l.2.2.2.2.2 x hx).2
theorem bN (w : World) (B : Nat) (F : FB) (M : PM) (h : MD w B F M) {i : Nat} {a : PA} {x : Nat × Nat} (hi : IsA F M i a x) {n : Int} (hn : a.id = n) :
  Calls Tryz.prog 34 #[.pointer (some ⟨F.pm, 0, none⟩), .int .i64 n] w fun e w' => e = .returned (.pointer (some ⟨x.1, 0, none⟩)) ∧ w' = w := by
 subst hn
 exact fa w B F M h hi
theorem ww {α β : Type} [DecidableEq α] {w : World} {y : Nat → Option Bool} {o : Oper} {a : Act} {Q : Exit → Act → World → Prop} {K' : Act → World → Prop} {k0 : Prop} (hgd : Region.wanted o y = true) (m x v : Operand) (t : TypeId) (hop : o.op = Op.mapUpdate t m x v)
  (K : KK α) (enc : β → Value) (e : TypeId) (ht : Tryz.prog.underlying t = some (.map K.kt e)) (b : Nat) (xs : List (α × β)) (hm : a.eval m = .map (some b)) (h : AM K enc w b xs) (hn : xs.length < maxLen)
  (key : α) (val : β) (hx : a.eval x = K.kv key) (hv : a.eval v = enc val) (ha : K.ok key)
  (hK : ∀ w', AM K enc w' b ((key, val) :: xs) → w.mapTurned w' b → K' (a.put o.dst undef) w') : if Region.wanted o y = true then o.wp Tryz.prog a w K' Q else k0 := by
 rw [if_pos hgd]
 obtain ⟨w', hrun, r1, r2⟩ := h.store ht hn ha val
 unfold Oper.wp
 simp [execOp, hop, hm, hx, hv, hrun, Result.andThen]
 exact hK w' r1 r2
set_option maxRecDepth 100000 in
theorem oE (w : World) (B : Nat) (F : FB) (M : PM) (hM : MD w B F M) (T : TBL w) (hB : 6 ≤ B) (e : EV) (tv : Value) (hop : e.op = 4) (i : Nat) (a : PA) (x : Nat × Nat) (hi : IsA F M i a x) (hid : a.id = e.n0) (n1 : 1 ≤ e.n1) (n2 : e.n1 ≤ 10000000000000) (v1 : -10000000000000 ≤ a.bal + e.n1) (v2 : a.bal + e.n1 ≤ 10000000000000) (hm : 0 ≤ M.n ∧ M.n ≤ 4611686018427387904) :
  Calls Tryz.prog 55 #[.pointer (some ⟨F.pm, 0, none⟩), .agg (e.cells tv).toArray] w fun r w' => r = .returned (.tuple #[]) ∧ MD w' B F (cashM M i a e.n1) ∧ But F.core w w' := by
 have b0 := (Below.refl w.heap.size w).alloc (Nat.le_refl _) (.cells (e.cells tv).toArray 31)
 have b1 := b0.alloc (by simp) (.cells #[.int .i64 0, .int .i64 0, .int .i64 0, .int .i64 0, .int .i64 0, .int .i64 0, .int .i64 0, .int .i64 0] 28)
 have V00 := aa w (e.cells tv) 31
 have V0 := V00.alloc (.cells #[.int .i64 0, .int .i64 0, .int .i64 0, .int .i64 0, .int .i64 0, .int .i64 0, .int .i64 0, .int .i64 0] 28)
 have hn0 := aa (w.alloc (.cells (e.cells tv).toArray 31)) ([.int .i64 0, .int .i64 0, .int .i64 0, .int .i64 0, .int .i64 0, .int .i64 0, .int .i64 0, .int .i64 0] : List Value) 28
 rw [World.size_alloc] at hn0
 have HN0 := hI_ hn0
 have y0 := V00.cell 2 (v := .int .i64 e.n0) rfl
 have y1 := V00.cell 3 (v := .int .i64 e.n1) rfl
 have y2 := V00.cell 4 (v := .int .i64 e.n2) rfl
 have y3 := V00.cell 5 (v := .int .i64 e.n3) rfl
 have y4 := V00.cell 6 (v := .int .i64 e.n4) rfl
 have y5 := V00.cell 7 (v := .int .i64 e.n5) rfl
 have y6 := V00.cell 8 (v := .int .i64 e.n6) rfl
 have y7 := V00.cell 9 (v := .int .i64 e.n7) rfl
 have HE0 := hI_ V0
 have HB0 := hI_ b1
 have HH : Hid (MD w B F M ∧ TBL w) := ⟨hM, T⟩
 have HQ : Hid (6 ≤ B ∧ ∀ j, F.core j → j < w.heap.size) := ⟨hB, fun j hj => hM.core_lt hj⟩
 have HOP : Hid (e.op = 4) := hop
 have H_hi := hI_ hi
 have H_hid := hI_ hid
 have H_hm := hI_ hm
 clear hi hid hm
 clear b0 b1 V00 V0 hn0 hM T hB hop
 go_enter Tryz.func55, Tryz.ntmps55
 go_upto_region 2 with (refine stA rfl 28 _ _ rfl (w.heap.size + 1) (by rfl) ([.int .i64 0, .int .i64 0, .int .i64 0, .int .i64 0, .int .i64 0, .int .i64 0, .int .i64 0, .int .i64 0] : List Value) [.int .i64 e.n0, .int .i64 e.n1, .int .i64 e.n2, .int .i64 e.n3, .int .i64 e.n4, .int .i64 e.n5, .int .i64 e.n6, .int .i64 e.n7] (by rfl) 28 HN0.out bp rfl (aI e) ?_; intro w1 hv1 hu1)
 have hb1 := hu1.bel HB0.out (by omega)
 have HM_1 : Hid (MD w1 B F M) := HH.out.1.step hb1
 have HT_1 : Hid (TBL w1) := HH.out.2.step hb1
 have BB_1 := hI_ hb1
 have HE_1 : Hid (VA w1 w.heap.size (e.cells tv) 31) := HE0.out.upd hu1 (by omega)
 have HN_1 : Hid (VA w1 (w.heap.size + 1) [.int .i64 e.n0, .int .i64 e.n1, .int .i64 e.n2, .int .i64 e.n3, .int .i64 e.n4, .int .i64 e.n5, .int .i64 e.n6, .int .i64 e.n7] 28) := hv1
 have y : w1.cell? ⟨w.heap.size, 0, none⟩ = some (.int .u8 4) := by have := HE_1.out.cell 0 (v := .int .u8 (e.op : Int)) rfl; rw [HOP.out] at this; exact this
 clear hb1 hv1 hu1 HN0 HE0 HB0 HH y0 y1 y2 y3 y4 y5 y6 y7
 go_upto_region 11 with fail
 clear y
 refine wp_region_noPanic ?_
 refine wp_region_held_drew (S := fun V => VA V (w.heap.size + 1) [.int .i64 e.n0, .int .i64 e.n1, .int .i64 e.n2, .int .i64 e.n3, .int .i64 e.n4, .int .i64 e.n5, .int .i64 e.n6, .int .i64 e.n7] 28) (by kernel_rfl) (HN_1.out.drew) ?_
 intro hHeld
 have bz := (Below.refl w1.heap.size w1).drew
 have HM_z := hI_ (HM_1.out.step bz)
 have HT_z := hI_ (HT_1.out.step bz)
 have HN_z := hI_ (HN_1.out.step bz)
 have BB_z := hI_ (BB_1.out.trans (bz.mono BB_1.out.size))
 generalize w1.drew = wz at *
 clear bz
 refine tK 0 43 (.pointer (some ⟨F.pm, 0, none⟩)) (by exact rfl) (Or.inl ⟨by rfl, ?_⟩) ?_
 ·intro wq hS
  go_simp
 try simp only [nrm]
 refine tK 1 44 (.pointer (some ⟨F.pm, 0, none⟩)) (by exact rfl) (Or.inl ⟨by rfl, ?_⟩) ?_
 ·intro wq hS
  go_simp
 try simp only [nrm]
 refine tK 2 45 (.pointer (some ⟨w.heap.size + 1, 0, none⟩)) (by exact rfl) (Or.inl ⟨by rfl, ?_⟩) ?_
 ·intro wq hS
  go_simp
 try simp only [nrm]
 refine tK 3 46 (.int .i64 e.n0) (by exact rfl) (Or.inl ⟨by rfl, ?_⟩) ?_
 ·intro wq hS
  have c := VA.cell hS 0 (v := .int .i64 e.n0) rfl
  go_simp
 try simp only [nrm]
 refine tK 5 48 (.pointer (some ⟨w.heap.size + 1, 1, none⟩)) (by exact rfl) (Or.inl ⟨by rfl, ?_⟩) ?_
 ·intro wq hS
  go_simp
 try simp only [nrm]
 refine tK 6 49 (.int .i64 e.n1) (by exact rfl) (Or.inl ⟨by rfl, ?_⟩) ?_
 ·intro wq hS
  have c := VA.cell hS 1 (v := .int .i64 e.n1) rfl
  go_simp
 try simp only [nrm]
 clear hHeld
 refine rdy 4 (fun K hK => ?_)
 go_simp
 refine Calls.mono (bN wz B F M HM_z.out H_hi.out H_hid.out) ?_
 rintro e wq ⟨rfl, hwq⟩
 obtain rfl := hwq.symm
 clear hwq
 go_wp2_with fail
 refine hK.out _ _ (HN_z.out) (fun hHeld => ?_)
 try simp only [nrm]
 clear hK K
 clear hHeld
 refine rdy 7 (fun K hK => ?_)
 go_simp
 refine (jV wz B F M HM_z.out HT_z.out HQ.out.1 i a x H_hi.out e.n1 (by omega) (by omega) v1 v2 H_hm.out).mono ?_
 rintro r w4 ⟨rfl, h1, h2⟩
 have HM_4 : Hid (MD w4 B F _) := h1
 have HN_4 : Hid (VA w4 (w.heap.size + 1) [.int .i64 e.n0, .int .i64 e.n1, .int .i64 e.n2, .int .i64 e.n3, .int .i64 e.n4, .int .i64 e.n5, .int .i64 e.n6, .int .i64 e.n7] 28) := HN_z.out.but h2 (fun hj => by have := HQ.out.2 _ (lV H_hi.out.x hj); omega)
 have HB_4 : Hid (But F.core w w4) := (af BB_z.out F.core).trans h2 (fun j _ hj => lV H_hi.out.x hj)
 clear h1 h2
 go_wp2_with fail
 refine hK.out _ _ HN_4.out (fun hHeld => ?_)
 try simp only [nrm]
 clear hK K hHeld
 refine wpAnyH_done (by kernel_rfl) ?_ _
 refine NoPanic.normal ?_
 go_wp2_with fail
 exact bodyPost_end (v := .tuple #[]) (by simp [results, Tryz.results55, go_sem]) rfl ⟨rfl, HM_4.out, HB_4.out⟩
set_option maxRecDepth 100000 in
theorem oF (w : World) (B : Nat) (F : FB) (M : PM) (hM : MD w B F M) (T : TBL w) (hB : 6 ≤ B) (e : EV) (tv : Value) (hop : e.op = 5) (i : Nat) (a : PA) (x : Nat × Nat) (hi : IsA F M i a x) (hid : a.id = e.n0) (n1 : 1 ≤ e.n1) (n2 : e.n1 ≤ 10000000000000) (v1 : -10000000000000 ≤ a.bal + -e.n1) (v2 : a.bal + -e.n1 ≤ 10000000000000) (hm : 0 ≤ M.n ∧ M.n ≤ 4611686018427387904) :
  Calls Tryz.prog 55 #[.pointer (some ⟨F.pm, 0, none⟩), .agg (e.cells tv).toArray] w fun r w' => r = .returned (.tuple #[]) ∧ MD w' B F (cashM M i a (-e.n1)) ∧ But F.core w w' := by
 have b0 := (Below.refl w.heap.size w).alloc (Nat.le_refl _) (.cells (e.cells tv).toArray 31)
 have b1 := b0.alloc (by simp) (.cells #[.int .i64 0, .int .i64 0, .int .i64 0, .int .i64 0, .int .i64 0, .int .i64 0, .int .i64 0, .int .i64 0] 28)
 have V00 := aa w (e.cells tv) 31
 have V0 := V00.alloc (.cells #[.int .i64 0, .int .i64 0, .int .i64 0, .int .i64 0, .int .i64 0, .int .i64 0, .int .i64 0, .int .i64 0] 28)
 have hn0 := aa (w.alloc (.cells (e.cells tv).toArray 31)) ([.int .i64 0, .int .i64 0, .int .i64 0, .int .i64 0, .int .i64 0, .int .i64 0, .int .i64 0, .int .i64 0] : List Value) 28
 rw [World.size_alloc] at hn0
 have HN0 := hI_ hn0
 have y0 := V00.cell 2 (v := .int .i64 e.n0) rfl
 have y1 := V00.cell 3 (v := .int .i64 e.n1) rfl
 have y2 := V00.cell 4 (v := .int .i64 e.n2) rfl
 have y3 := V00.cell 5 (v := .int .i64 e.n3) rfl
 have y4 := V00.cell 6 (v := .int .i64 e.n4) rfl
 have y5 := V00.cell 7 (v := .int .i64 e.n5) rfl
 have y6 := V00.cell 8 (v := .int .i64 e.n6) rfl
 have y7 := V00.cell 9 (v := .int .i64 e.n7) rfl
 have HE0 := hI_ V0
 have HB0 := hI_ b1
 have HH : Hid (MD w B F M ∧ TBL w) := ⟨hM, T⟩
 have HQ : Hid (6 ≤ B ∧ ∀ j, F.core j → j < w.heap.size) := ⟨hB, fun j hj => hM.core_lt hj⟩
 have HOP : Hid (e.op = 5) := hop
 have H_hi := hI_ hi
 have H_hid := hI_ hid
 have H_hm := hI_ hm
 clear hi hid hm
 clear b0 b1 V00 V0 hn0 hM T hB hop
 go_enter Tryz.func55, Tryz.ntmps55
 go_upto_region 2 with (refine stA rfl 28 _ _ rfl (w.heap.size + 1) (by rfl) ([.int .i64 0, .int .i64 0, .int .i64 0, .int .i64 0, .int .i64 0, .int .i64 0, .int .i64 0, .int .i64 0] : List Value) [.int .i64 e.n0, .int .i64 e.n1, .int .i64 e.n2, .int .i64 e.n3, .int .i64 e.n4, .int .i64 e.n5, .int .i64 e.n6, .int .i64 e.n7] (by rfl) 28 HN0.out bp rfl (aI e) ?_; intro w1 hv1 hu1)
 have hb1 := hu1.bel HB0.out (by omega)
 have HM_1 : Hid (MD w1 B F M) := HH.out.1.step hb1
 have HT_1 : Hid (TBL w1) := HH.out.2.step hb1
 have BB_1 := hI_ hb1
 have HE_1 : Hid (VA w1 w.heap.size (e.cells tv) 31) := HE0.out.upd hu1 (by omega)
 have HN_1 : Hid (VA w1 (w.heap.size + 1) [.int .i64 e.n0, .int .i64 e.n1, .int .i64 e.n2, .int .i64 e.n3, .int .i64 e.n4, .int .i64 e.n5, .int .i64 e.n6, .int .i64 e.n7] 28) := hv1
 have y : w1.cell? ⟨w.heap.size, 0, none⟩ = some (.int .u8 5) := by have := HE_1.out.cell 0 (v := .int .u8 (e.op : Int)) rfl; rw [HOP.out] at this; exact this
 clear hb1 hv1 hu1 HN0 HE0 HB0 HH y0 y1 y2 y3 y4 y5 y6 y7
 go_upto_region 13 with fail
 clear y
 refine wp_region_noPanic ?_
 refine wp_region_held_drew (S := fun V => VA V (w.heap.size + 1) [.int .i64 e.n0, .int .i64 e.n1, .int .i64 e.n2, .int .i64 e.n3, .int .i64 e.n4, .int .i64 e.n5, .int .i64 e.n6, .int .i64 e.n7] 28) (by kernel_rfl) (HN_1.out.drew) ?_
 intro hHeld
 have bz := (Below.refl w1.heap.size w1).drew
 have HM_z := hI_ (HM_1.out.step bz)
 have HT_z := hI_ (HT_1.out.step bz)
 have HN_z := hI_ (HN_1.out.step bz)
 have BB_z := hI_ (BB_1.out.trans (bz.mono BB_1.out.size))
 generalize w1.drew = wz at *
 clear bz
 refine tK 0 53 (.pointer (some ⟨F.pm, 0, none⟩)) (by exact rfl) (Or.inl ⟨by rfl, ?_⟩) ?_
 ·intro wq hS
  go_simp
 try simp only [nrm]
 refine tK 1 54 (.pointer (some ⟨F.pm, 0, none⟩)) (by exact rfl) (Or.inl ⟨by rfl, ?_⟩) ?_
 ·intro wq hS
  go_simp
 try simp only [nrm]
 refine tK 2 55 (.pointer (some ⟨w.heap.size + 1, 0, none⟩)) (by exact rfl) (Or.inl ⟨by rfl, ?_⟩) ?_
 ·intro wq hS
  go_simp
 try simp only [nrm]
 refine tK 3 56 (.int .i64 e.n0) (by exact rfl) (Or.inl ⟨by rfl, ?_⟩) ?_
 ·intro wq hS
  have c := VA.cell hS 0 (v := .int .i64 e.n0) rfl
  go_simp
 try simp only [nrm]
 refine tK 5 58 (.pointer (some ⟨w.heap.size + 1, 1, none⟩)) (by exact rfl) (Or.inl ⟨by rfl, ?_⟩) ?_
 ·intro wq hS
  go_simp
 try simp only [nrm]
 refine tK 6 59 (.int .i64 e.n1) (by exact rfl) (Or.inl ⟨by rfl, ?_⟩) ?_
 ·intro wq hS
  have c := VA.cell hS 1 (v := .int .i64 e.n1) rfl
  go_simp
 try simp only [nrm]
 refine tK 7 60 (.int .i64 (-e.n1)) (by exact rfl) (Or.inl ⟨by rfl, ?_⟩) ?_
 ·intro wq hS
  go_simp
  try (rw [IntKind.wrap_i64]; omega)
 try simp only [nrm]
 clear hHeld
 refine rdy 4 (fun K hK => ?_)
 go_simp
 refine Calls.mono (bN wz B F M HM_z.out H_hi.out H_hid.out) ?_
 rintro e wq ⟨rfl, hwq⟩
 obtain rfl := hwq.symm
 clear hwq
 go_wp2_with fail
 refine hK.out _ _ (HN_z.out) (fun hHeld => ?_)
 try simp only [nrm]
 clear hK K
 clear hHeld
 refine rdy 8 (fun K hK => ?_)
 go_simp
 refine (jV wz B F M HM_z.out HT_z.out HQ.out.1 i a x H_hi.out (-e.n1) (by omega) (by omega) v1 v2 H_hm.out).mono ?_
 rintro r w4 ⟨rfl, h1, h2⟩
 have HM_4 : Hid (MD w4 B F _) := h1
 have HN_4 : Hid (VA w4 (w.heap.size + 1) [.int .i64 e.n0, .int .i64 e.n1, .int .i64 e.n2, .int .i64 e.n3, .int .i64 e.n4, .int .i64 e.n5, .int .i64 e.n6, .int .i64 e.n7] 28) := HN_z.out.but h2 (fun hj => by have := HQ.out.2 _ (lV H_hi.out.x hj); omega)
 have HB_4 : Hid (But F.core w w4) := (af BB_z.out F.core).trans h2 (fun j _ hj => lV H_hi.out.x hj)
 clear h1 h2
 go_wp2_with fail
 refine hK.out _ _ HN_4.out (fun hHeld => ?_)
 try simp only [nrm]
 clear hK K hHeld
 refine wpAnyH_done (by kernel_rfl) ?_ _
 refine NoPanic.normal ?_
 go_wp2_with fail
 exact bodyPost_end (v := .tuple #[]) (by simp [results, Tryz.results55, go_sem]) rfl ⟨rfl, HM_4.out, HB_4.out⟩
set_option maxRecDepth 100000 in
theorem oG (w : World) (B : Nat) (F : FB) (M : PM) (hM : MD w B F M) (T : TBL w) (hB : 6 ≤ B) (e : EV) (tv : Value) (hop : e.op = 6) (i : Nat) (a : PA) (x : Nat × Nat) (hi : IsA F M i a x) (hid : a.id = e.n0) (j : Nat) (b : PA) (y : Nat × Nat) (hj : IsA F M j b y) (hjd : b.id = e.n1) (hij : i ≠ j) (n1 : 1 ≤ e.n2) (n2 : e.n2 ≤ 10000000000000) (v1 : -10000000000000 ≤ a.bal - e.n2) (v2 : a.bal - e.n2 ≤ 10000000000000) (u1 : -10000000000000 ≤ b.bal + e.n2) (u2 : b.bal + e.n2 ≤ 10000000000000) (hm : 0 ≤ M.n ∧ M.n ≤ 4611686018427387904) :
  Calls Tryz.prog 55 #[.pointer (some ⟨F.pm, 0, none⟩), .agg (e.cells tv).toArray] w fun r w' => r = .returned (.tuple #[]) ∧ MD w' B F (twoM M i a (a.bal - e.n2) j b (b.bal + e.n2) 2 2 e.n2) ∧ But F.core w w' := by
 have b0 := (Below.refl w.heap.size w).alloc (Nat.le_refl _) (.cells (e.cells tv).toArray 31)
 have b1 := b0.alloc (by simp) (.cells #[.int .i64 0, .int .i64 0, .int .i64 0, .int .i64 0, .int .i64 0, .int .i64 0, .int .i64 0, .int .i64 0] 28)
 have V00 := aa w (e.cells tv) 31
 have V0 := V00.alloc (.cells #[.int .i64 0, .int .i64 0, .int .i64 0, .int .i64 0, .int .i64 0, .int .i64 0, .int .i64 0, .int .i64 0] 28)
 have hn0 := aa (w.alloc (.cells (e.cells tv).toArray 31)) ([.int .i64 0, .int .i64 0, .int .i64 0, .int .i64 0, .int .i64 0, .int .i64 0, .int .i64 0, .int .i64 0] : List Value) 28
 rw [World.size_alloc] at hn0
 have HN0 := hI_ hn0
 have y0 := V00.cell 2 (v := .int .i64 e.n0) rfl
 have y1 := V00.cell 3 (v := .int .i64 e.n1) rfl
 have y2 := V00.cell 4 (v := .int .i64 e.n2) rfl
 have y3 := V00.cell 5 (v := .int .i64 e.n3) rfl
 have y4 := V00.cell 6 (v := .int .i64 e.n4) rfl
 have y5 := V00.cell 7 (v := .int .i64 e.n5) rfl
 have y6 := V00.cell 8 (v := .int .i64 e.n6) rfl
 have y7 := V00.cell 9 (v := .int .i64 e.n7) rfl
 have HE0 := hI_ V0
 have HB0 := hI_ b1
 have HH : Hid (MD w B F M ∧ TBL w) := ⟨hM, T⟩
 have HQ : Hid (6 ≤ B ∧ ∀ j, F.core j → j < w.heap.size) := ⟨hB, fun j hj => hM.core_lt hj⟩
 have HOP : Hid (e.op = 6) := hop
 have H_hi := hI_ hi
 have H_hid := hI_ hid
 have H_hj := hI_ hj
 have H_hjd := hI_ hjd
 have H_hij := hI_ hij
 have H_hm := hI_ hm
 clear hi hid hj hjd hij hm
 clear b0 b1 V00 V0 hn0 hM T hB hop
 go_enter Tryz.func55, Tryz.ntmps55
 go_upto_region 2 with (refine stA rfl 28 _ _ rfl (w.heap.size + 1) (by rfl) ([.int .i64 0, .int .i64 0, .int .i64 0, .int .i64 0, .int .i64 0, .int .i64 0, .int .i64 0, .int .i64 0] : List Value) [.int .i64 e.n0, .int .i64 e.n1, .int .i64 e.n2, .int .i64 e.n3, .int .i64 e.n4, .int .i64 e.n5, .int .i64 e.n6, .int .i64 e.n7] (by rfl) 28 HN0.out bp rfl (aI e) ?_; intro w1 hv1 hu1)
 have hb1 := hu1.bel HB0.out (by omega)
 have HM_1 : Hid (MD w1 B F M) := HH.out.1.step hb1
 have HT_1 : Hid (TBL w1) := HH.out.2.step hb1
 have BB_1 := hI_ hb1
 have HE_1 : Hid (VA w1 w.heap.size (e.cells tv) 31) := HE0.out.upd hu1 (by omega)
 have HN_1 : Hid (VA w1 (w.heap.size + 1) [.int .i64 e.n0, .int .i64 e.n1, .int .i64 e.n2, .int .i64 e.n3, .int .i64 e.n4, .int .i64 e.n5, .int .i64 e.n6, .int .i64 e.n7] 28) := hv1
 have y : w1.cell? ⟨w.heap.size, 0, none⟩ = some (.int .u8 6) := by have := HE_1.out.cell 0 (v := .int .u8 (e.op : Int)) rfl; rw [HOP.out] at this; exact this
 clear hb1 hv1 hu1 HN0 HE0 HB0 HH y0 y1 y2 y3 y4 y5 y6 y7
 go_upto_region 15 with fail
 clear y
 refine wp_region_noPanic ?_
 refine wp_region_held_drew (S := fun V => VA V (w.heap.size + 1) [.int .i64 e.n0, .int .i64 e.n1, .int .i64 e.n2, .int .i64 e.n3, .int .i64 e.n4, .int .i64 e.n5, .int .i64 e.n6, .int .i64 e.n7] 28) (by kernel_rfl) (HN_1.out.drew) ?_
 intro hHeld
 have bz := (Below.refl w1.heap.size w1).drew
 have HM_z := hI_ (HM_1.out.step bz)
 have HT_z := hI_ (HT_1.out.step bz)
 have HN_z := hI_ (HN_1.out.step bz)
 have BB_z := hI_ (BB_1.out.trans (bz.mono BB_1.out.size))
 generalize w1.drew = wz at *
 clear bz
 refine tK 0 64 (.pointer (some ⟨F.pm, 0, none⟩)) (by exact rfl) (Or.inl ⟨by rfl, ?_⟩) ?_
 ·intro wq hS
  go_simp
 try simp only [nrm]
 refine tK 1 65 (.pointer (some ⟨F.pm, 0, none⟩)) (by exact rfl) (Or.inl ⟨by rfl, ?_⟩) ?_
 ·intro wq hS
  go_simp
 try simp only [nrm]
 refine tK 2 66 (.pointer (some ⟨w.heap.size + 1, 0, none⟩)) (by exact rfl) (Or.inl ⟨by rfl, ?_⟩) ?_
 ·intro wq hS
  go_simp
 try simp only [nrm]
 refine tK 3 67 (.int .i64 e.n0) (by exact rfl) (Or.inl ⟨by rfl, ?_⟩) ?_
 ·intro wq hS
  have c := VA.cell hS 0 (v := .int .i64 e.n0) rfl
  go_simp
 try simp only [nrm]
 refine tK 5 69 (.pointer (some ⟨F.pm, 0, none⟩)) (by exact rfl) (Or.inl ⟨by rfl, ?_⟩) ?_
 ·intro wq hS
  go_simp
 try simp only [nrm]
 refine tK 6 70 (.pointer (some ⟨w.heap.size + 1, 1, none⟩)) (by exact rfl) (Or.inl ⟨by rfl, ?_⟩) ?_
 ·intro wq hS
  go_simp
 try simp only [nrm]
 refine tK 7 71 (.int .i64 e.n1) (by exact rfl) (Or.inl ⟨by rfl, ?_⟩) ?_
 ·intro wq hS
  have c := VA.cell hS 1 (v := .int .i64 e.n1) rfl
  go_simp
 try simp only [nrm]
 refine tK 9 73 (.pointer (some ⟨w.heap.size + 1, 2, none⟩)) (by exact rfl) (Or.inl ⟨by rfl, ?_⟩) ?_
 ·intro wq hS
  go_simp
 try simp only [nrm]
 refine tK 10 74 (.int .i64 e.n2) (by exact rfl) (Or.inl ⟨by rfl, ?_⟩) ?_
 ·intro wq hS
  have c := VA.cell hS 2 (v := .int .i64 e.n2) rfl
  go_simp
 try simp only [nrm]
 clear hHeld
 refine rdy 4 (fun K hK => ?_)
 go_simp
 refine Calls.mono (bN wz B F M HM_z.out H_hi.out H_hid.out) ?_
 rintro e wq ⟨rfl, hwq⟩
 obtain rfl := hwq.symm
 clear hwq
 go_wp2_with fail
 refine hK.out _ _ (HN_z.out) (fun hHeld => ?_)
 try simp only [nrm]
 clear hK K
 clear hHeld
 refine rdy 8 (fun K hK => ?_)
 go_simp
 refine Calls.mono (bN wz B F M HM_z.out H_hj.out H_hjd.out) ?_
 rintro e wq ⟨rfl, hwq⟩
 obtain rfl := hwq.symm
 clear hwq
 go_wp2_with fail
 refine hK.out _ _ (HN_z.out) (fun hHeld => ?_)
 try simp only [nrm]
 clear hK K
 clear hHeld
 refine rdy 11 (fun K hK => ?_)
 go_simp
 refine (jg wz B F M HM_z.out HT_z.out HQ.out.1 i j a b x y H_hi.out H_hj.out H_hij.out e.n2 (by omega) (by omega) v1 v2 u1 u2 H_hm.out).mono ?_
 rintro r w4 ⟨rfl, h1, h2⟩
 have HM_4 : Hid (MD w4 B F _) := h1
 have HN_4 : Hid (VA w4 (w.heap.size + 1) [.int .i64 e.n0, .int .i64 e.n1, .int .i64 e.n2, .int .i64 e.n3, .int .i64 e.n4, .int .i64 e.n5, .int .i64 e.n6, .int .i64 e.n7] 28) := HN_z.out.but h2 (fun hj => by have := HQ.out.2 _ (iy H_hi.out.x H_hj.out.x hj); omega)
 have HB_4 : Hid (But F.core w w4) := (af BB_z.out F.core).trans h2 (fun j _ hj => iy H_hi.out.x H_hj.out.x hj)
 clear h1 h2
 go_wp2_with fail
 refine hK.out _ _ HN_4.out (fun hHeld => ?_)
 try simp only [nrm]
 clear hK K hHeld
 refine wpAnyH_done (by kernel_rfl) ?_ _
 refine NoPanic.normal ?_
 go_wp2_with fail
 exact bodyPost_end (v := .tuple #[]) (by simp [results, Tryz.results55, go_sem]) rfl ⟨rfl, HM_4.out, HB_4.out⟩
set_option maxRecDepth 100000 in
theorem oH (w : World) (B : Nat) (F : FB) (M : PM) (hM : MD w B F M) (T : TBL w) (hB : 6 ≤ B) (e : EV) (tv : Value) (hop : e.op = 7) (i : Nat) (a : PA) (x : Nat × Nat) (hi : IsA F M i a x) (hid : a.id = e.n0) (n1 : 1 ≤ e.n2) (n2 : e.n2 ≤ 10000000000000) (hk : 1 ≤ e.n1 ∧ e.n1 ≤ 1000000000) (h0 : lkA a.hs e.n1 = none) (hl : a.hs.length < 64) (hh : a.held + e.n2 ≤ 20000000000000) :
  Calls Tryz.prog 55 #[.pointer (some ⟨F.pm, 0, none⟩), .agg (e.cells tv).toArray] w fun r w' => r = .returned (.tuple #[]) ∧ MD w' B F ({ M with al := M.al.set i (heldA a e.n1 e.n2) }) ∧ But F.core w w' := by
 have b0 := (Below.refl w.heap.size w).alloc (Nat.le_refl _) (.cells (e.cells tv).toArray 31)
 have b1 := b0.alloc (by simp) (.cells #[.int .i64 0, .int .i64 0, .int .i64 0, .int .i64 0, .int .i64 0, .int .i64 0, .int .i64 0, .int .i64 0] 28)
 have V00 := aa w (e.cells tv) 31
 have V0 := V00.alloc (.cells #[.int .i64 0, .int .i64 0, .int .i64 0, .int .i64 0, .int .i64 0, .int .i64 0, .int .i64 0, .int .i64 0] 28)
 have hn0 := aa (w.alloc (.cells (e.cells tv).toArray 31)) ([.int .i64 0, .int .i64 0, .int .i64 0, .int .i64 0, .int .i64 0, .int .i64 0, .int .i64 0, .int .i64 0] : List Value) 28
 rw [World.size_alloc] at hn0
 have HN0 := hI_ hn0
 have y0 := V00.cell 2 (v := .int .i64 e.n0) rfl
 have y1 := V00.cell 3 (v := .int .i64 e.n1) rfl
 have y2 := V00.cell 4 (v := .int .i64 e.n2) rfl
 have y3 := V00.cell 5 (v := .int .i64 e.n3) rfl
 have y4 := V00.cell 6 (v := .int .i64 e.n4) rfl
 have y5 := V00.cell 7 (v := .int .i64 e.n5) rfl
 have y6 := V00.cell 8 (v := .int .i64 e.n6) rfl
 have y7 := V00.cell 9 (v := .int .i64 e.n7) rfl
 have HE0 := hI_ V0
 have HB0 := hI_ b1
 have HH : Hid (MD w B F M ∧ TBL w) := ⟨hM, T⟩
 have HQ : Hid (6 ≤ B ∧ ∀ j, F.core j → j < w.heap.size) := ⟨hB, fun j hj => hM.core_lt hj⟩
 have HOP : Hid (e.op = 7) := hop
 have H_hi := hI_ hi
 have H_hid := hI_ hid
 have H_hk := hI_ hk
 have H_h0 := hI_ h0
 have H_hl := hI_ hl
 have H_hh := hI_ hh
 clear hi hid hk h0 hl hh
 clear b0 b1 V00 V0 hn0 hM T hB hop
 go_enter Tryz.func55, Tryz.ntmps55
 go_upto_region 2 with (refine stA rfl 28 _ _ rfl (w.heap.size + 1) (by rfl) ([.int .i64 0, .int .i64 0, .int .i64 0, .int .i64 0, .int .i64 0, .int .i64 0, .int .i64 0, .int .i64 0] : List Value) [.int .i64 e.n0, .int .i64 e.n1, .int .i64 e.n2, .int .i64 e.n3, .int .i64 e.n4, .int .i64 e.n5, .int .i64 e.n6, .int .i64 e.n7] (by rfl) 28 HN0.out bp rfl (aI e) ?_; intro w1 hv1 hu1)
 have hb1 := hu1.bel HB0.out (by omega)
 have HM_1 : Hid (MD w1 B F M) := HH.out.1.step hb1
 have HT_1 : Hid (TBL w1) := HH.out.2.step hb1
 have BB_1 := hI_ hb1
 have HE_1 : Hid (VA w1 w.heap.size (e.cells tv) 31) := HE0.out.upd hu1 (by omega)
 have HN_1 : Hid (VA w1 (w.heap.size + 1) [.int .i64 e.n0, .int .i64 e.n1, .int .i64 e.n2, .int .i64 e.n3, .int .i64 e.n4, .int .i64 e.n5, .int .i64 e.n6, .int .i64 e.n7] 28) := hv1
 have y : w1.cell? ⟨w.heap.size, 0, none⟩ = some (.int .u8 7) := by have := HE_1.out.cell 0 (v := .int .u8 (e.op : Int)) rfl; rw [HOP.out] at this; exact this
 clear hb1 hv1 hu1 HN0 HE0 HB0 HH y0 y1 y2 y3 y4 y5 y6 y7
 go_upto_region 17 with fail
 clear y
 refine wp_region_noPanic ?_
 refine wp_region_held_drew (S := fun V => VA V (w.heap.size + 1) [.int .i64 e.n0, .int .i64 e.n1, .int .i64 e.n2, .int .i64 e.n3, .int .i64 e.n4, .int .i64 e.n5, .int .i64 e.n6, .int .i64 e.n7] 28) (by kernel_rfl) (HN_1.out.drew) ?_
 intro hHeld
 have bz := (Below.refl w1.heap.size w1).drew
 have HM_z := hI_ (HM_1.out.step bz)
 have HT_z := hI_ (HT_1.out.step bz)
 have HN_z := hI_ (HN_1.out.step bz)
 have BB_z := hI_ (BB_1.out.trans (bz.mono BB_1.out.size))
 generalize w1.drew = wz at *
 clear bz
 refine tK 0 78 (.pointer (some ⟨F.pm, 0, none⟩)) (by exact rfl) (Or.inl ⟨by rfl, ?_⟩) ?_
 ·intro wq hS
  go_simp
 try simp only [nrm]
 refine tK 1 79 (.pointer (some ⟨w.heap.size + 1, 0, none⟩)) (by exact rfl) (Or.inl ⟨by rfl, ?_⟩) ?_
 ·intro wq hS
  go_simp
 try simp only [nrm]
 refine tK 2 80 (.int .i64 e.n0) (by exact rfl) (Or.inl ⟨by rfl, ?_⟩) ?_
 ·intro wq hS
  have c := VA.cell hS 0 (v := .int .i64 e.n0) rfl
  go_simp
 try simp only [nrm]
 refine tK 4 82 (.pointer (some ⟨w.heap.size + 1, 1, none⟩)) (by exact rfl) (Or.inl ⟨by rfl, ?_⟩) ?_
 ·intro wq hS
  go_simp
 try simp only [nrm]
 refine tK 5 83 (.int .i64 e.n1) (by exact rfl) (Or.inl ⟨by rfl, ?_⟩) ?_
 ·intro wq hS
  have c := VA.cell hS 1 (v := .int .i64 e.n1) rfl
  go_simp
 try simp only [nrm]
 refine tK 6 84 (.pointer (some ⟨w.heap.size + 1, 2, none⟩)) (by exact rfl) (Or.inl ⟨by rfl, ?_⟩) ?_
 ·intro wq hS
  go_simp
 try simp only [nrm]
 refine tK 7 85 (.int .i64 e.n2) (by exact rfl) (Or.inl ⟨by rfl, ?_⟩) ?_
 ·intro wq hS
  have c := VA.cell hS 2 (v := .int .i64 e.n2) rfl
  go_simp
 try simp only [nrm]
 clear hHeld
 refine rdy 3 (fun K hK => ?_)
 go_simp
 refine Calls.mono (bN wz B F M HM_z.out H_hi.out H_hid.out) ?_
 rintro e wq ⟨rfl, hwq⟩
 obtain rfl := hwq.symm
 clear hwq
 go_wp2_with fail
 refine hK.out _ _ (HN_z.out) (fun hHeld => ?_)
 try simp only [nrm]
 clear hK K
 clear hHeld
 refine rdy 8 (fun K hK => ?_)
 go_simp
 refine (pd wz B F M HM_z.out i a x H_hi.out e.n1 e.n2 H_hk.out n1 n2 H_h0.out H_hl.out H_hh.out).mono ?_
 rintro r w4 ⟨rfl, h1, h2⟩
 have HM_4 : Hid (MD w4 B F _) := h1
 have HN_4 : Hid (VA w4 (w.heap.size + 1) [.int .i64 e.n0, .int .i64 e.n1, .int .i64 e.n2, .int .i64 e.n3, .int .i64 e.n4, .int .i64 e.n5, .int .i64 e.n6, .int .i64 e.n7] 28) := HN_z.out.but h2 (fun hj => by have := HQ.out.2 _ (fP H_hi.out.x hj); omega)
 have HB_4 : Hid (But F.core w w4) := (af BB_z.out F.core).trans h2 (fun j _ hj => fP H_hi.out.x hj)
 clear h1 h2
 go_wp2_with fail
 refine hK.out _ _ HN_4.out (fun hHeld => ?_)
 try simp only [nrm]
 clear hK K hHeld
 refine wpAnyH_done (by kernel_rfl) ?_ _
 refine NoPanic.normal ?_
 go_wp2_with fail
 exact bodyPost_end (v := .tuple #[]) (by simp [results, Tryz.results55, go_sem]) rfl ⟨rfl, HM_4.out, HB_4.out⟩
set_option maxRecDepth 100000 in
theorem oI (w : World) (B : Nat) (F : FB) (M : PM) (hM : MD w B F M) (T : TBL w) (hB : 6 ≤ B) (e : EV) (tv : Value) (hop : e.op = 8) (i : Nat) (a : PA) (x : Nat × Nat) (hi : IsA F M i a x) (hid : a.id = e.n0) (z : Int) (h0 : lkA a.hs e.n1 = some z) :
  Calls Tryz.prog 55 #[.pointer (some ⟨F.pm, 0, none⟩), .agg (e.cells tv).toArray] w fun r w' => r = .returned (.tuple #[]) ∧ MD w' B F ({ M with al := M.al.set i (freedA a e.n1 z) }) ∧ But F.core w w' := by
 have b0 := (Below.refl w.heap.size w).alloc (Nat.le_refl _) (.cells (e.cells tv).toArray 31)
 have b1 := b0.alloc (by simp) (.cells #[.int .i64 0, .int .i64 0, .int .i64 0, .int .i64 0, .int .i64 0, .int .i64 0, .int .i64 0, .int .i64 0] 28)
 have V00 := aa w (e.cells tv) 31
 have V0 := V00.alloc (.cells #[.int .i64 0, .int .i64 0, .int .i64 0, .int .i64 0, .int .i64 0, .int .i64 0, .int .i64 0, .int .i64 0] 28)
 have hn0 := aa (w.alloc (.cells (e.cells tv).toArray 31)) ([.int .i64 0, .int .i64 0, .int .i64 0, .int .i64 0, .int .i64 0, .int .i64 0, .int .i64 0, .int .i64 0] : List Value) 28
 rw [World.size_alloc] at hn0
 have HN0 := hI_ hn0
 have y0 := V00.cell 2 (v := .int .i64 e.n0) rfl
 have y1 := V00.cell 3 (v := .int .i64 e.n1) rfl
 have y2 := V00.cell 4 (v := .int .i64 e.n2) rfl
 have y3 := V00.cell 5 (v := .int .i64 e.n3) rfl
 have y4 := V00.cell 6 (v := .int .i64 e.n4) rfl
 have y5 := V00.cell 7 (v := .int .i64 e.n5) rfl
 have y6 := V00.cell 8 (v := .int .i64 e.n6) rfl
 have y7 := V00.cell 9 (v := .int .i64 e.n7) rfl
 have HE0 := hI_ V0
 have HB0 := hI_ b1
 have HH : Hid (MD w B F M ∧ TBL w) := ⟨hM, T⟩
 have HQ : Hid (6 ≤ B ∧ ∀ j, F.core j → j < w.heap.size) := ⟨hB, fun j hj => hM.core_lt hj⟩
 have HOP : Hid (e.op = 8) := hop
 have H_hi := hI_ hi
 have H_hid := hI_ hid
 have H_h0 := hI_ h0
 clear hi hid h0
 clear b0 b1 V00 V0 hn0 hM T hB hop
 go_enter Tryz.func55, Tryz.ntmps55
 go_upto_region 2 with (refine stA rfl 28 _ _ rfl (w.heap.size + 1) (by rfl) ([.int .i64 0, .int .i64 0, .int .i64 0, .int .i64 0, .int .i64 0, .int .i64 0, .int .i64 0, .int .i64 0] : List Value) [.int .i64 e.n0, .int .i64 e.n1, .int .i64 e.n2, .int .i64 e.n3, .int .i64 e.n4, .int .i64 e.n5, .int .i64 e.n6, .int .i64 e.n7] (by rfl) 28 HN0.out bp rfl (aI e) ?_; intro w1 hv1 hu1)
 have hb1 := hu1.bel HB0.out (by omega)
 have HM_1 : Hid (MD w1 B F M) := HH.out.1.step hb1
 have HT_1 : Hid (TBL w1) := HH.out.2.step hb1
 have BB_1 := hI_ hb1
 have HE_1 : Hid (VA w1 w.heap.size (e.cells tv) 31) := HE0.out.upd hu1 (by omega)
 have HN_1 : Hid (VA w1 (w.heap.size + 1) [.int .i64 e.n0, .int .i64 e.n1, .int .i64 e.n2, .int .i64 e.n3, .int .i64 e.n4, .int .i64 e.n5, .int .i64 e.n6, .int .i64 e.n7] 28) := hv1
 have y : w1.cell? ⟨w.heap.size, 0, none⟩ = some (.int .u8 8) := by have := HE_1.out.cell 0 (v := .int .u8 (e.op : Int)) rfl; rw [HOP.out] at this; exact this
 clear hb1 hv1 hu1 HN0 HE0 HB0 HH y0 y1 y2 y3 y4 y5 y6 y7
 go_upto_region 19 with fail
 clear y
 refine wp_region_noPanic ?_
 refine wp_region_held_drew (S := fun V => VA V (w.heap.size + 1) [.int .i64 e.n0, .int .i64 e.n1, .int .i64 e.n2, .int .i64 e.n3, .int .i64 e.n4, .int .i64 e.n5, .int .i64 e.n6, .int .i64 e.n7] 28) (by kernel_rfl) (HN_1.out.drew) ?_
 intro hHeld
 have bz := (Below.refl w1.heap.size w1).drew
 have HM_z := hI_ (HM_1.out.step bz)
 have HT_z := hI_ (HT_1.out.step bz)
 have HN_z := hI_ (HN_1.out.step bz)
 have BB_z := hI_ (BB_1.out.trans (bz.mono BB_1.out.size))
 generalize w1.drew = wz at *
 clear bz
 refine tK 0 89 (.pointer (some ⟨F.pm, 0, none⟩)) (by exact rfl) (Or.inl ⟨by rfl, ?_⟩) ?_
 ·intro wq hS
  go_simp
 try simp only [nrm]
 refine tK 1 90 (.pointer (some ⟨w.heap.size + 1, 0, none⟩)) (by exact rfl) (Or.inl ⟨by rfl, ?_⟩) ?_
 ·intro wq hS
  go_simp
 try simp only [nrm]
 refine tK 2 91 (.int .i64 e.n0) (by exact rfl) (Or.inl ⟨by rfl, ?_⟩) ?_
 ·intro wq hS
  have c := VA.cell hS 0 (v := .int .i64 e.n0) rfl
  go_simp
 try simp only [nrm]
 refine tK 4 93 (.pointer (some ⟨w.heap.size + 1, 1, none⟩)) (by exact rfl) (Or.inl ⟨by rfl, ?_⟩) ?_
 ·intro wq hS
  go_simp
 try simp only [nrm]
 refine tK 5 94 (.int .i64 e.n1) (by exact rfl) (Or.inl ⟨by rfl, ?_⟩) ?_
 ·intro wq hS
  have c := VA.cell hS 1 (v := .int .i64 e.n1) rfl
  go_simp
 try simp only [nrm]
 clear hHeld
 refine rdy 3 (fun K hK => ?_)
 go_simp
 refine Calls.mono (bN wz B F M HM_z.out H_hi.out H_hid.out) ?_
 rintro e wq ⟨rfl, hwq⟩
 obtain rfl := hwq.symm
 clear hwq
 go_wp2_with fail
 refine hK.out _ _ (HN_z.out) (fun hHeld => ?_)
 try simp only [nrm]
 clear hK K
 clear hHeld
 refine rdy 6 (fun K hK => ?_)
 go_simp
 refine (pb wz B F M HM_z.out i a x H_hi.out e.n1 z H_h0.out).mono ?_
 rintro r w4 ⟨rfl, h1, h2⟩
 have HM_4 : Hid (MD w4 B F _) := h1
 have HN_4 : Hid (VA w4 (w.heap.size + 1) [.int .i64 e.n0, .int .i64 e.n1, .int .i64 e.n2, .int .i64 e.n3, .int .i64 e.n4, .int .i64 e.n5, .int .i64 e.n6, .int .i64 e.n7] 28) := HN_z.out.but h2 (fun hj => by have := HQ.out.2 _ (fP H_hi.out.x hj); omega)
 have HB_4 : Hid (But F.core w w4) := (af BB_z.out F.core).trans h2 (fun j _ hj => fP H_hi.out.x hj)
 clear h1 h2
 go_wp2_with fail
 refine hK.out _ _ HN_4.out (fun hHeld => ?_)
 try simp only [nrm]
 clear hK K hHeld
 refine wpAnyH_done (by kernel_rfl) ?_ _
 refine NoPanic.normal ?_
 go_wp2_with fail
 exact bodyPost_end (v := .tuple #[]) (by simp [results, Tryz.results55, go_sem]) rfl ⟨rfl, HM_4.out, HB_4.out⟩
set_option maxRecDepth 100000 in
theorem oJ (w : World) (B : Nat) (F : FB) (M : PM) (hM : MD w B F M) (T : TBL w) (hB : 6 ≤ B) (e : EV) (tv : Value) (hop : e.op = 9) (i : Nat) (a : PA) (x : Nat × Nat) (hi : IsA F M i a x) (hid : a.id = e.n0) (j : Nat) (b : PA) (y : Nat × Nat) (hj : IsA F M j b y) (hjd : b.id = e.n1) (hij : i ≠ j) (n1 : 1 ≤ e.n2) (n2 : e.n2 ≤ 10000000000000) (v1 : -10000000000000 ≤ a.bal + e.n2) (v2 : a.bal + e.n2 ≤ 10000000000000) (u1 : -10000000000000 ≤ b.bal + e.n2) (u2 : b.bal + e.n2 ≤ 10000000000000) (hm : 0 ≤ M.n ∧ M.n ≤ 4611686018427387904) :
  Calls Tryz.prog 55 #[.pointer (some ⟨F.pm, 0, none⟩), .agg (e.cells tv).toArray] w fun r w' => r = .returned (.tuple #[]) ∧ MD w' B F (twoM M i a (a.bal + e.n2) j b (b.bal + e.n2) 3 2 e.n2) ∧ But F.core w w' := by
 have b0 := (Below.refl w.heap.size w).alloc (Nat.le_refl _) (.cells (e.cells tv).toArray 31)
 have b1 := b0.alloc (by simp) (.cells #[.int .i64 0, .int .i64 0, .int .i64 0, .int .i64 0, .int .i64 0, .int .i64 0, .int .i64 0, .int .i64 0] 28)
 have V00 := aa w (e.cells tv) 31
 have V0 := V00.alloc (.cells #[.int .i64 0, .int .i64 0, .int .i64 0, .int .i64 0, .int .i64 0, .int .i64 0, .int .i64 0, .int .i64 0] 28)
 have hn0 := aa (w.alloc (.cells (e.cells tv).toArray 31)) ([.int .i64 0, .int .i64 0, .int .i64 0, .int .i64 0, .int .i64 0, .int .i64 0, .int .i64 0, .int .i64 0] : List Value) 28
 rw [World.size_alloc] at hn0
 have HN0 := hI_ hn0
 have y0 := V00.cell 2 (v := .int .i64 e.n0) rfl
 have y1 := V00.cell 3 (v := .int .i64 e.n1) rfl
 have y2 := V00.cell 4 (v := .int .i64 e.n2) rfl
 have y3 := V00.cell 5 (v := .int .i64 e.n3) rfl
 have y4 := V00.cell 6 (v := .int .i64 e.n4) rfl
 have y5 := V00.cell 7 (v := .int .i64 e.n5) rfl
 have y6 := V00.cell 8 (v := .int .i64 e.n6) rfl
 have y7 := V00.cell 9 (v := .int .i64 e.n7) rfl
 have HE0 := hI_ V0
 have HB0 := hI_ b1
 have HH : Hid (MD w B F M ∧ TBL w) := ⟨hM, T⟩
 have HQ : Hid (6 ≤ B ∧ ∀ j, F.core j → j < w.heap.size) := ⟨hB, fun j hj => hM.core_lt hj⟩
 have HOP : Hid (e.op = 9) := hop
 have H_hi := hI_ hi
 have H_hid := hI_ hid
 have H_hj := hI_ hj
 have H_hjd := hI_ hjd
 have H_hij := hI_ hij
 have H_hm := hI_ hm
 clear hi hid hj hjd hij hm
 clear b0 b1 V00 V0 hn0 hM T hB hop
 go_enter Tryz.func55, Tryz.ntmps55
 go_upto_region 2 with (refine stA rfl 28 _ _ rfl (w.heap.size + 1) (by rfl) ([.int .i64 0, .int .i64 0, .int .i64 0, .int .i64 0, .int .i64 0, .int .i64 0, .int .i64 0, .int .i64 0] : List Value) [.int .i64 e.n0, .int .i64 e.n1, .int .i64 e.n2, .int .i64 e.n3, .int .i64 e.n4, .int .i64 e.n5, .int .i64 e.n6, .int .i64 e.n7] (by rfl) 28 HN0.out bp rfl (aI e) ?_; intro w1 hv1 hu1)
 have hb1 := hu1.bel HB0.out (by omega)
 have HM_1 : Hid (MD w1 B F M) := HH.out.1.step hb1
 have HT_1 : Hid (TBL w1) := HH.out.2.step hb1
 have BB_1 := hI_ hb1
 have HE_1 : Hid (VA w1 w.heap.size (e.cells tv) 31) := HE0.out.upd hu1 (by omega)
 have HN_1 : Hid (VA w1 (w.heap.size + 1) [.int .i64 e.n0, .int .i64 e.n1, .int .i64 e.n2, .int .i64 e.n3, .int .i64 e.n4, .int .i64 e.n5, .int .i64 e.n6, .int .i64 e.n7] 28) := hv1
 have y : w1.cell? ⟨w.heap.size, 0, none⟩ = some (.int .u8 9) := by have := HE_1.out.cell 0 (v := .int .u8 (e.op : Int)) rfl; rw [HOP.out] at this; exact this
 clear hb1 hv1 hu1 HN0 HE0 HB0 HH y0 y1 y2 y3 y4 y5 y6 y7
 go_upto_region 21 with fail
 clear y
 refine wp_region_noPanic ?_
 refine wp_region_held_drew (S := fun V => VA V (w.heap.size + 1) [.int .i64 e.n0, .int .i64 e.n1, .int .i64 e.n2, .int .i64 e.n3, .int .i64 e.n4, .int .i64 e.n5, .int .i64 e.n6, .int .i64 e.n7] 28) (by kernel_rfl) (HN_1.out.drew) ?_
 intro hHeld
 have bz := (Below.refl w1.heap.size w1).drew
 have HM_z := hI_ (HM_1.out.step bz)
 have HT_z := hI_ (HT_1.out.step bz)
 have HN_z := hI_ (HN_1.out.step bz)
 have BB_z := hI_ (BB_1.out.trans (bz.mono BB_1.out.size))
 generalize w1.drew = wz at *
 clear bz
 refine tK 0 98 (.pointer (some ⟨F.pm, 0, none⟩)) (by exact rfl) (Or.inl ⟨by rfl, ?_⟩) ?_
 ·intro wq hS
  go_simp
 try simp only [nrm]
 refine tK 1 99 (.pointer (some ⟨F.pm, 0, none⟩)) (by exact rfl) (Or.inl ⟨by rfl, ?_⟩) ?_
 ·intro wq hS
  go_simp
 try simp only [nrm]
 refine tK 2 100 (.pointer (some ⟨w.heap.size + 1, 0, none⟩)) (by exact rfl) (Or.inl ⟨by rfl, ?_⟩) ?_
 ·intro wq hS
  go_simp
 try simp only [nrm]
 refine tK 3 101 (.int .i64 e.n0) (by exact rfl) (Or.inl ⟨by rfl, ?_⟩) ?_
 ·intro wq hS
  have c := VA.cell hS 0 (v := .int .i64 e.n0) rfl
  go_simp
 try simp only [nrm]
 refine tK 5 103 (.pointer (some ⟨F.pm, 0, none⟩)) (by exact rfl) (Or.inl ⟨by rfl, ?_⟩) ?_
 ·intro wq hS
  go_simp
 try simp only [nrm]
 refine tK 6 104 (.pointer (some ⟨w.heap.size + 1, 1, none⟩)) (by exact rfl) (Or.inl ⟨by rfl, ?_⟩) ?_
 ·intro wq hS
  go_simp
 try simp only [nrm]
 refine tK 7 105 (.int .i64 e.n1) (by exact rfl) (Or.inl ⟨by rfl, ?_⟩) ?_
 ·intro wq hS
  have c := VA.cell hS 1 (v := .int .i64 e.n1) rfl
  go_simp
 try simp only [nrm]
 refine tK 9 107 (.pointer (some ⟨w.heap.size + 1, 2, none⟩)) (by exact rfl) (Or.inl ⟨by rfl, ?_⟩) ?_
 ·intro wq hS
  go_simp
 try simp only [nrm]
 refine tK 10 108 (.int .i64 e.n2) (by exact rfl) (Or.inl ⟨by rfl, ?_⟩) ?_
 ·intro wq hS
  have c := VA.cell hS 2 (v := .int .i64 e.n2) rfl
  go_simp
 try simp only [nrm]
 clear hHeld
 refine rdy 4 (fun K hK => ?_)
 go_simp
 refine Calls.mono (bN wz B F M HM_z.out H_hi.out H_hid.out) ?_
 rintro e wq ⟨rfl, hwq⟩
 obtain rfl := hwq.symm
 clear hwq
 go_wp2_with fail
 refine hK.out _ _ (HN_z.out) (fun hHeld => ?_)
 try simp only [nrm]
 clear hK K
 clear hHeld
 refine rdy 8 (fun K hK => ?_)
 go_simp
 refine Calls.mono (bN wz B F M HM_z.out H_hj.out H_hjd.out) ?_
 rintro e wq ⟨rfl, hwq⟩
 obtain rfl := hwq.symm
 clear hwq
 go_wp2_with fail
 refine hK.out _ _ (HN_z.out) (fun hHeld => ?_)
 try simp only [nrm]
 clear hK K
 clear hHeld
 refine rdy 11 (fun K hK => ?_)
 go_simp
 refine (jX wz B F M HM_z.out HT_z.out HQ.out.1 i j a b x y H_hi.out H_hj.out H_hij.out e.n2 (by omega) (by omega) v1 v2 u1 u2 H_hm.out).mono ?_
 rintro r w4 ⟨rfl, h1, h2⟩
 have HM_4 : Hid (MD w4 B F _) := h1
 have HN_4 : Hid (VA w4 (w.heap.size + 1) [.int .i64 e.n0, .int .i64 e.n1, .int .i64 e.n2, .int .i64 e.n3, .int .i64 e.n4, .int .i64 e.n5, .int .i64 e.n6, .int .i64 e.n7] 28) := HN_z.out.but h2 (fun hj => by have := HQ.out.2 _ (iy H_hi.out.x H_hj.out.x hj); omega)
 have HB_4 : Hid (But F.core w w4) := (af BB_z.out F.core).trans h2 (fun j _ hj => iy H_hi.out.x H_hj.out.x hj)
 clear h1 h2
 go_wp2_with fail
 refine hK.out _ _ HN_4.out (fun hHeld => ?_)
 try simp only [nrm]
 clear hK K hHeld
 refine wpAnyH_done (by kernel_rfl) ?_ _
 refine NoPanic.normal ?_
 go_wp2_with fail
 exact bodyPost_end (v := .tuple #[]) (by simp [results, Tryz.results55, go_sem]) rfl ⟨rfl, HM_4.out, HB_4.out⟩
set_option maxRecDepth 100000 in
theorem mU (w : World) (B : Nat) (F : FB) (M : PM) (hM : MD w B F M) (T : TBL w) (hB : 6 ≤ B) (e : EV) (tv : Value) (hop : e.op = 10) (i : Nat) (a : PA) (x : Nat × Nat) (hi : IsA F M i a x) (hid : a.id = e.n0) (j : Nat) (b : PA) (y : Nat × Nat) (hj : IsA F M j b y) (hjd : b.id = e.n1) (hij : i ≠ j) (n1 : 1 ≤ e.n2) (n2 : e.n2 ≤ 10000000000000) (v1 : -10000000000000 ≤ a.bal + -e.n2) (v2 : a.bal + -e.n2 ≤ 10000000000000) (u1 : -10000000000000 ≤ b.bal + -e.n2) (u2 : b.bal + -e.n2 ≤ 10000000000000) (hm : 0 ≤ M.n ∧ M.n ≤ 4611686018427387904) :
  Calls Tryz.prog 55 #[.pointer (some ⟨F.pm, 0, none⟩), .agg (e.cells tv).toArray] w fun r w' => r = .returned (.tuple #[]) ∧ MD w' B F (twoM M i a (a.bal + -e.n2) j b (b.bal + -e.n2) 3 2 (-e.n2)) ∧ But F.core w w' := by
 have b0 := (Below.refl w.heap.size w).alloc (Nat.le_refl _) (.cells (e.cells tv).toArray 31)
 have b1 := b0.alloc (by simp) (.cells #[.int .i64 0, .int .i64 0, .int .i64 0, .int .i64 0, .int .i64 0, .int .i64 0, .int .i64 0, .int .i64 0] 28)
 have V00 := aa w (e.cells tv) 31
 have V0 := V00.alloc (.cells #[.int .i64 0, .int .i64 0, .int .i64 0, .int .i64 0, .int .i64 0, .int .i64 0, .int .i64 0, .int .i64 0] 28)
 have hn0 := aa (w.alloc (.cells (e.cells tv).toArray 31)) ([.int .i64 0, .int .i64 0, .int .i64 0, .int .i64 0, .int .i64 0, .int .i64 0, .int .i64 0, .int .i64 0] : List Value) 28
 rw [World.size_alloc] at hn0
 have HN0 := hI_ hn0
 have y0 := V00.cell 2 (v := .int .i64 e.n0) rfl
 have y1 := V00.cell 3 (v := .int .i64 e.n1) rfl
 have y2 := V00.cell 4 (v := .int .i64 e.n2) rfl
 have y3 := V00.cell 5 (v := .int .i64 e.n3) rfl
 have y4 := V00.cell 6 (v := .int .i64 e.n4) rfl
 have y5 := V00.cell 7 (v := .int .i64 e.n5) rfl
 have y6 := V00.cell 8 (v := .int .i64 e.n6) rfl
 have y7 := V00.cell 9 (v := .int .i64 e.n7) rfl
 have HE0 := hI_ V0
 have HB0 := hI_ b1
 have HH : Hid (MD w B F M ∧ TBL w) := ⟨hM, T⟩
 have HQ : Hid (6 ≤ B ∧ ∀ j, F.core j → j < w.heap.size) := ⟨hB, fun j hj => hM.core_lt hj⟩
 have HOP : Hid (e.op = 10) := hop
 have H_hi := hI_ hi
 have H_hid := hI_ hid
 have H_hj := hI_ hj
 have H_hjd := hI_ hjd
 have H_hij := hI_ hij
 have H_hm := hI_ hm
 clear hi hid hj hjd hij hm
 clear b0 b1 V00 V0 hn0 hM T hB hop
 go_enter Tryz.func55, Tryz.ntmps55
 go_upto_region 2 with (refine stA rfl 28 _ _ rfl (w.heap.size + 1) (by rfl) ([.int .i64 0, .int .i64 0, .int .i64 0, .int .i64 0, .int .i64 0, .int .i64 0, .int .i64 0, .int .i64 0] : List Value) [.int .i64 e.n0, .int .i64 e.n1, .int .i64 e.n2, .int .i64 e.n3, .int .i64 e.n4, .int .i64 e.n5, .int .i64 e.n6, .int .i64 e.n7] (by rfl) 28 HN0.out bp rfl (aI e) ?_; intro w1 hv1 hu1)
 have hb1 := hu1.bel HB0.out (by omega)
 have HM_1 : Hid (MD w1 B F M) := HH.out.1.step hb1
 have HT_1 : Hid (TBL w1) := HH.out.2.step hb1
 have BB_1 := hI_ hb1
 have HE_1 : Hid (VA w1 w.heap.size (e.cells tv) 31) := HE0.out.upd hu1 (by omega)
 have HN_1 : Hid (VA w1 (w.heap.size + 1) [.int .i64 e.n0, .int .i64 e.n1, .int .i64 e.n2, .int .i64 e.n3, .int .i64 e.n4, .int .i64 e.n5, .int .i64 e.n6, .int .i64 e.n7] 28) := hv1
 have y : w1.cell? ⟨w.heap.size, 0, none⟩ = some (.int .u8 10) := by have := HE_1.out.cell 0 (v := .int .u8 (e.op : Int)) rfl; rw [HOP.out] at this; exact this
 clear hb1 hv1 hu1 HN0 HE0 HB0 HH y0 y1 y2 y3 y4 y5 y6 y7
 go_upto_region 23 with fail
 clear y
 refine wp_region_noPanic ?_
 refine wp_region_held_drew (S := fun V => VA V (w.heap.size + 1) [.int .i64 e.n0, .int .i64 e.n1, .int .i64 e.n2, .int .i64 e.n3, .int .i64 e.n4, .int .i64 e.n5, .int .i64 e.n6, .int .i64 e.n7] 28) (by kernel_rfl) (HN_1.out.drew) ?_
 intro hHeld
 have bz := (Below.refl w1.heap.size w1).drew
 have HM_z := hI_ (HM_1.out.step bz)
 have HT_z := hI_ (HT_1.out.step bz)
 have HN_z := hI_ (HN_1.out.step bz)
 have BB_z := hI_ (BB_1.out.trans (bz.mono BB_1.out.size))
 generalize w1.drew = wz at *
 clear bz
 refine tK 0 112 (.pointer (some ⟨F.pm, 0, none⟩)) (by exact rfl) (Or.inl ⟨by rfl, ?_⟩) ?_
 ·intro wq hS
  go_simp
 try simp only [nrm]
 refine tK 1 113 (.pointer (some ⟨F.pm, 0, none⟩)) (by exact rfl) (Or.inl ⟨by rfl, ?_⟩) ?_
 ·intro wq hS
  go_simp
 try simp only [nrm]
 refine tK 2 114 (.pointer (some ⟨w.heap.size + 1, 0, none⟩)) (by exact rfl) (Or.inl ⟨by rfl, ?_⟩) ?_
 ·intro wq hS
  go_simp
 try simp only [nrm]
 refine tK 3 115 (.int .i64 e.n0) (by exact rfl) (Or.inl ⟨by rfl, ?_⟩) ?_
 ·intro wq hS
  have c := VA.cell hS 0 (v := .int .i64 e.n0) rfl
  go_simp
 try simp only [nrm]
 refine tK 5 117 (.pointer (some ⟨F.pm, 0, none⟩)) (by exact rfl) (Or.inl ⟨by rfl, ?_⟩) ?_
 ·intro wq hS
  go_simp
 try simp only [nrm]
 refine tK 6 118 (.pointer (some ⟨w.heap.size + 1, 1, none⟩)) (by exact rfl) (Or.inl ⟨by rfl, ?_⟩) ?_
 ·intro wq hS
  go_simp
 try simp only [nrm]
 refine tK 7 119 (.int .i64 e.n1) (by exact rfl) (Or.inl ⟨by rfl, ?_⟩) ?_
 ·intro wq hS
  have c := VA.cell hS 1 (v := .int .i64 e.n1) rfl
  go_simp
 try simp only [nrm]
 refine tK 9 121 (.pointer (some ⟨w.heap.size + 1, 2, none⟩)) (by exact rfl) (Or.inl ⟨by rfl, ?_⟩) ?_
 ·intro wq hS
  go_simp
 try simp only [nrm]
 refine tK 10 122 (.int .i64 e.n2) (by exact rfl) (Or.inl ⟨by rfl, ?_⟩) ?_
 ·intro wq hS
  have c := VA.cell hS 2 (v := .int .i64 e.n2) rfl
  go_simp
 try simp only [nrm]
 refine tK 11 123 (.int .i64 (-e.n2)) (by exact rfl) (Or.inl ⟨by rfl, ?_⟩) ?_
 ·intro wq hS
  go_simp
  try (rw [IntKind.wrap_i64]; omega)
 try simp only [nrm]
 clear hHeld
 refine rdy 4 (fun K hK => ?_)
 go_simp
 refine Calls.mono (bN wz B F M HM_z.out H_hi.out H_hid.out) ?_
 rintro e wq ⟨rfl, hwq⟩
 obtain rfl := hwq.symm
 clear hwq
 go_wp2_with fail
 refine hK.out _ _ (HN_z.out) (fun hHeld => ?_)
 try simp only [nrm]
 clear hK K
 clear hHeld
 refine rdy 8 (fun K hK => ?_)
 go_simp
 refine Calls.mono (bN wz B F M HM_z.out H_hj.out H_hjd.out) ?_
 rintro e wq ⟨rfl, hwq⟩
 obtain rfl := hwq.symm
 clear hwq
 go_wp2_with fail
 refine hK.out _ _ (HN_z.out) (fun hHeld => ?_)
 try simp only [nrm]
 clear hK K
 clear hHeld
 refine rdy 12 (fun K hK => ?_)
 go_simp
 refine (jX wz B F M HM_z.out HT_z.out HQ.out.1 i j a b x y H_hi.out H_hj.out H_hij.out (-e.n2) (by omega) (by omega) v1 v2 u1 u2 H_hm.out).mono ?_
 rintro r w4 ⟨rfl, h1, h2⟩
 have HM_4 : Hid (MD w4 B F _) := h1
 have HN_4 : Hid (VA w4 (w.heap.size + 1) [.int .i64 e.n0, .int .i64 e.n1, .int .i64 e.n2, .int .i64 e.n3, .int .i64 e.n4, .int .i64 e.n5, .int .i64 e.n6, .int .i64 e.n7] 28) := HN_z.out.but h2 (fun hj => by have := HQ.out.2 _ (iy H_hi.out.x H_hj.out.x hj); omega)
 have HB_4 : Hid (But F.core w w4) := (af BB_z.out F.core).trans h2 (fun j _ hj => iy H_hi.out.x H_hj.out.x hj)
 clear h1 h2
 go_wp2_with fail
 refine hK.out _ _ HN_4.out (fun hHeld => ?_)
 try simp only [nrm]
 clear hK K hHeld
 refine wpAnyH_done (by kernel_rfl) ?_ _
 refine NoPanic.normal ?_
 go_wp2_with fail
 exact bodyPost_end (v := .tuple #[]) (by simp [results, Tryz.results55, go_sem]) rfl ⟨rfl, HM_4.out, HB_4.out⟩
def FB.reach (w : World) (B : Nat) (F : FB) (j : Nat) : Prop := F.core j ∨ j = F.pc ∨ j = F.bm ∨ (B ≤ j ∧ ∃ cs fr, w.heap[j]? = some (Obj.cells cs 81 fr)) ∨ (B ≤ j ∧ ∃ cs fr, w.heap[j]? = some (Obj.cells cs 208 fr))
theorem mo {w : World} {k : TypeId} {b n : Nat} {f : Lit → Option Value} (h : MapF w k b n f) : ∃ es clock, w.heap[b]? = some (.map es clock) := by
 obtain ⟨D, ⟨es, clock, hb, _⟩, _⟩ := h
 exact ⟨es, clock, hb⟩
theorem MD.catO {w : World} {B : Nat} {F : FB} {M : PM} (h : MD w B F M) {svA : Value} (hA : VA w F.pc [.map (some F.bm), svA] 154) : (∃ es clock, w.heap[F.bm]? = some (.map es clock)) ∧ ∀ g, svA.ownBlock = some g → ∃ cs, w.heap[g]? = some (.cells cs 208 (0, 0)) := by
 obtain ⟨S, hC⟩ := h.cat
 obtain ⟨bm', sv', n, f, a1, a2, a3, a4, a5, a6, a7, a8⟩ := hC.mem
 have e := a1.blk.symm.trans hA.blk
 simp only [Option.some.injEq, Obj.cells.injEq, Array.mk.injEq, List.cons.injEq, Value.map.injEq] at e
 obtain rfl := e.1.1
 obtain rfl := e.1.2.1
 exact ⟨mo a4, fun g hg => a6.blkT hg⟩
theorem MD.catL {w : World} {B : Nat} {F : FB} {M : PM} (h : MD w B F M) {svA : Value} (hA : VA w F.pc [.map (some F.bm), svA] 154) : B ≤ F.pc ∧ B ≤ F.bm ∧ ∀ g, svA.ownBlock = some g → B ≤ g := by
 obtain ⟨S, hC⟩ := h.cat
 obtain ⟨bm', sv', n, f, a1, a2, a3, a4, a5, a6, a7, a8⟩ := hC.mem
 have e := a1.blk.symm.trans hA.blk
 simp only [Option.some.injEq, Obj.cells.injEq, Array.mk.injEq, List.cons.injEq, Value.map.injEq] at e
 obtain rfl := e.1.1
 obtain rfl := e.1.2.1
 exact ⟨a2, a3, fun g hg => a6.block g hg⟩
theorem MD.reach_low {w w1 : World} {B : Nat} {F : FB} {M : PM} (h : MD w B F M) {j : Nat} (hj : F.reach w1 B j) : B ≤ j := by
 obtain ⟨sv, hV⟩ := h.cbm
 rcases hj with hj | hj | hj | hj | hj
 ·exact h.core_low hj
 ·rw [hj]; exact (h.catL hV).1
 ·rw [hj]; exact (h.catL hV).2.1
 ·exact hj.1
 ·exact hj.1
theorem MD.addV {w w' : World} {B : Nat} {F : FB} {M : PM} {x : PV} {S' : Nat → Prop} {svA : Value} (h : MD w B F M) (hA : VA w F.pc [.map (some F.bm), svA] 154) (k : But (fun j => j = F.pc ∨ j = F.bm ∨ svA.ownBlock = some j) w w') (C : Cat w' F.pc B S' (M.vs ++ [x])) (V : ∃ sv', VA w' F.pc [.map (some F.bm), sv'] 154) (hx : addE M.vs x = 0) : MD w' B F { M with vs := M.vs ++ [x] } := by
 obtain ⟨hm, hO⟩ := h.catO hA
 have m := h.maps
 have nv : ∀ {p : Nat} {cs : List Value} {T : TypeId}, VA w p cs T → T ≠ 154 → T ≠ 208 → ¬ (p = F.pc ∨ p = F.bm ∨ svA.ownBlock = some p) := fun v h1 h2 e => by
  rcases e with e | e | e
  ·exact v.ne hA h1 e
  ·exact v.neM hm e
  ·obtain ⟨cs, e3⟩ := hO _ e
   have := v.blk.symm.trans e3
   simp only [Option.some.injEq, Obj.cells.injEq] at this
   exact h2 this.2.1
 have nm : ∀ {p : Nat}, (∃ es c, w.heap[p]? = some (Obj.map es c)) → p ≠ F.bm → ¬ (p = F.pc ∨ p = F.bm ∨ svA.ownBlock = some p) := fun hp hne e => by
  rcases e with e | e | e
  ·exact hA.neM hp e.symm
  ·exact hne e
  ·obtain ⟨cs, e3⟩ := hO _ e
   obtain ⟨es, c, e4⟩ := hp
   have := e3.symm.trans e4
   cases this
 refine ⟨h.va.but k (nv h.va (by decide) (by decide)), ⟨S', C⟩, V, h.led.but k (nv h.led.va (by decide) (by decide)) (nm (bW h.led.map) (fun e => m.1 e.symm)), h.rts.but k (nm h.rts.isMap (fun e => m.2.1 e.symm)), h.kys.but k (nm h.kys.isMap (fun e => m.2.2.1 e.symm)), h.row.but k (fun g hg hx => ?_), h.len, fun j a y ha hy => ?_, h.low, h.mps, h.abs, ⟨h.wf.day, h.wf.acs, h.wf.sort, h.wf.len, h.wf.rats, h.wf.seq, h.wf.run, fun i y hy => ?_⟩⟩
 ·obtain ⟨cs, e⟩ := h.row.blkT hg
  rcases hx with rfl | rfl | hx
  ·have := e.symm.trans hA.blk
   simp only [Option.some.injEq, Obj.cells.injEq] at this
   exact absurd this.2.1 (by decide)
  ·obtain ⟨es, c, e2⟩ := hm
   have := e.symm.trans e2
   cases this
  ·obtain ⟨cs2, e2⟩ := hO _ hx
   have := e.symm.trans e2
   simp only [Option.some.injEq, Obj.cells.injEq] at this
   exact absurd this.2.1 (by decide)
 ·have hb' := h.acs j a y ha hy
  exact ⟨hb'.1.but k (nv hb'.1 (by decide) (by decide)), hb'.2.but k (nm hb'.2.isMap (fun e => (h.maps_ne hy).1 e.symm))⟩
 ·show addE ((M.vs ++ [x]).take i) y = 0
  have hy : (M.vs ++ [x])[i]? = some y := hy
  rcases Nat.lt_or_ge i M.vs.length with hi | hi
  ·rw [List.getElem?_append_left hi] at hy
   rw [List.take_append_of_le_length (by omega)]
   exact h.wf.adds i y hy
  ·rw [List.getElem?_append_right hi] at hy
   obtain ⟨e1, e2⟩ : i = M.vs.length ∧ x = y := by
    cases hd : i - M.vs.length with
    | zero => rw [hd] at hy; simp at hy; exact ⟨by omega, hy⟩
    | succ n => rw [hd] at hy; simp at hy
   subst e1 e2
   rw [List.take_append_of_le_length (Nat.le_refl _), List.take_length]
   exact hx
theorem ti {vs : List PV} {x : PV} (h0 : addE vs x = 0) : chk x = 0 ∧ fol vs x = 0 ∧ vs.length < 64 := by
 have h1 : chk x = 0 := by
  by_cases e : chk x = 0
  ·exact e
  ·unfold addE at h0
   rw [if_pos e] at h0
   exact h0
 have h2 : fol vs x = 0 := by
  by_cases e : fol vs x = 0
  ·exact e
  ·unfold addE at h0
   rw [if_neg (fun h => h h1), if_pos e] at h0
   exact h0
 refine ⟨h1, h2, ?_⟩
 unfold addE at h0
 rw [if_neg (fun h => h h1), if_neg (fun h => h h2)] at h0
 by_cases e : 64 ≤ vs.length
 ·rw [if_pos e] at h0; cases h0
 ·omega
theorem rT (w : World) (B : Nat) (F : FB) (M : PM) (h : MD w B F M) (x : PV) (tv : Value) (hx : x.wf) (R : Tr w tv x.ts) (hno : ∀ n c, tv = .slice none n c → c = 0) (h0 : addE M.vs x = 0) :
  Calls Tryz.prog 83 #[.pointer (some ⟨F.pc, 0, none⟩), .agg (x.cells tv).toArray] w fun e w' => e = .returned (.int .i64 0) ∧ MD w' B F { M with vs := M.vs ++ [x] } ∧ But (fun j => j = F.pc ∨ j = F.bm ∨ (B ≤ j ∧ ∃ cs fr, w.heap[j]? = some (Obj.cells cs 208 fr))) w w' := by
 obtain ⟨S, hC⟩ := h.cat
 obtain ⟨sv, hV⟩ := h.cbm
 obtain ⟨h1, h2, h3⟩ := ti h0
 refine (nX x tv w hC hV hx R hno h1 h2 h3).mono ?_
 rintro e w' ⟨rfl, C, b, _, V, k⟩
 refine ⟨rfl, h.addV hV k C V h0, k.mono (fun j hj => ?_)⟩
 rcases hj with hj | hj | hj
 ·exact Or.inl hj
 ·exact Or.inr (Or.inl hj)
 ·obtain ⟨cs, e⟩ := (h.catO hV).2 j hj
  exact Or.inr (Or.inr ⟨(h.catL hV).2.2 j hj, _, _, e⟩)
set_option maxRecDepth 100000 in
theorem oB (w : World) (B : Nat) (F : FB) (M : PM) (hM : MD w B F M) (T : TBL w) (hB : 6 ≤ B) (e : EV) (tv : Value) (hop : e.op = 1) (he : e.ok) (R : Tr w tv e.ts) (hno : ∀ n c, tv = .slice none n c → c = 0) (h0 : addE M.vs e.pv = 0) :
  Calls Tryz.prog 55 #[.pointer (some ⟨F.pm, 0, none⟩), .agg (e.cells tv).toArray] w fun r w' => r = .returned (.tuple #[]) ∧ MD w' B F ({ M with vs := M.vs ++ [e.pv] }) ∧ But (F.reach w B) w w' := by
 have b0 := (Below.refl w.heap.size w).alloc (Nat.le_refl _) (.cells (e.cells tv).toArray 31)
 have b1 := b0.alloc (by simp) (.cells #[.int .i64 0, .int .i64 0, .int .i64 0, .int .i64 0, .int .i64 0, .int .i64 0, .int .i64 0, .int .i64 0] 28)
 have V00 := aa w (e.cells tv) 31
 have V0 := V00.alloc (.cells #[.int .i64 0, .int .i64 0, .int .i64 0, .int .i64 0, .int .i64 0, .int .i64 0, .int .i64 0, .int .i64 0] 28)
 have hn0 := aa (w.alloc (.cells (e.cells tv).toArray 31)) ([.int .i64 0, .int .i64 0, .int .i64 0, .int .i64 0, .int .i64 0, .int .i64 0, .int .i64 0, .int .i64 0] : List Value) 28
 rw [World.size_alloc] at hn0
 have HN0 := hI_ hn0
 have y0 := V00.cell 2 (v := .int .i64 e.n0) rfl
 have y1 := V00.cell 3 (v := .int .i64 e.n1) rfl
 have y2 := V00.cell 4 (v := .int .i64 e.n2) rfl
 have y3 := V00.cell 5 (v := .int .i64 e.n3) rfl
 have y4 := V00.cell 6 (v := .int .i64 e.n4) rfl
 have y5 := V00.cell 7 (v := .int .i64 e.n5) rfl
 have y6 := V00.cell 8 (v := .int .i64 e.n6) rfl
 have y7 := V00.cell 9 (v := .int .i64 e.n7) rfl
 have HTF : Hid (∃ a n c, tv = Value.slice a n c) := (show ∃ a n c, tv = Value.slice a n c from by obtain ⟨a, c, e, _⟩ := R.form; exact ⟨a, _, c, e⟩)
 have HSZ := (show Hid (∀ j, w.heap.size ≤ j → ¬ F.reach w B j) from fun j hj hr => by
  obtain ⟨sv, hV⟩ := hM.cbm
  rcases hr with hr | hr | hr | ⟨_, cs, fr, hr⟩ | ⟨_, cs, fr, hr⟩
  ·have := hM.core_lt hr; omega
  ·have := hV.lt; omega
  ·obtain ⟨es, c, e⟩ := (hM.catO hV).1
   have := (Array.getElem?_eq_some_iff.1 e).1
   omega
  ·have := (Array.getElem?_eq_some_iff.1 hr).1
   omega
  ·have := (Array.getElem?_eq_some_iff.1 hr).1
   omega)
 have HPC : Hid (∀ j, (j = F.pc ∨ j = F.bm) → F.reach w B j) := fun j hj => hj.elim (fun e => Or.inr (Or.inl e)) (fun e => Or.inr (Or.inr (Or.inl e)))
 have HE0 := hI_ V0
 have HB0 := hI_ b1
 have HH : Hid (MD w B F M ∧ TBL w) := ⟨hM, T⟩
 have HQ : Hid (6 ≤ B ∧ ∀ j, F.core j → j < w.heap.size) := ⟨hB, fun j hj => hM.core_lt hj⟩
 have HOP : Hid (e.op = 1) := hop
 have H_he := hI_ he
 have H_R := hI_ R
 have H_hno := hI_ hno
 have H_h0 := hI_ h0
 clear he R hno h0
 clear b0 b1 V00 V0 hn0 hM T hB hop
 go_enter Tryz.func55, Tryz.ntmps55
 go_upto_region 2 with (refine stA rfl 28 _ _ rfl (w.heap.size + 1) (by rfl) ([.int .i64 0, .int .i64 0, .int .i64 0, .int .i64 0, .int .i64 0, .int .i64 0, .int .i64 0, .int .i64 0] : List Value) [.int .i64 e.n0, .int .i64 e.n1, .int .i64 e.n2, .int .i64 e.n3, .int .i64 e.n4, .int .i64 e.n5, .int .i64 e.n6, .int .i64 e.n7] (by rfl) 28 HN0.out bp rfl (aI e) ?_; intro w1 hv1 hu1)
 have hb1 := hu1.bel HB0.out (by omega)
 have HM_1 : Hid (MD w1 B F M) := HH.out.1.step hb1
 have HT_1 : Hid (TBL w1) := HH.out.2.step hb1
 have BB_1 := hI_ hb1
 have HE_1 : Hid (VA w1 w.heap.size (e.cells tv) 31) := HE0.out.upd hu1 (by omega)
 have HTR_1 : Hid (Tr w1 tv e.ts) := H_R.out.step hb1
 have HN_1 : Hid (VA w1 (w.heap.size + 1) [.int .i64 e.n0, .int .i64 e.n1, .int .i64 e.n2, .int .i64 e.n3, .int .i64 e.n4, .int .i64 e.n5, .int .i64 e.n6, .int .i64 e.n7] 28) := hv1
 have y : w1.cell? ⟨w.heap.size, 0, none⟩ = some (.int .u8 1) := by have := HE_1.out.cell 0 (v := .int .u8 (e.op : Int)) rfl; rw [HOP.out] at this; exact this
 clear hb1 hv1 hu1 HN0 HE0 HB0 HH y0 y1 y2 y3 y4 y5 y6 y7
 go_upto_region 4 with fail
 clear y
 refine wp_region_noPanic ?_
 refine wp_region_held_drew (S := fun V => (∃ cs : List Value, VA V (w.heap.size + 1) cs 28) ∧ VA V w.heap.size (e.cells tv) 31 ∧ VA V F.pm (mcells F M) 100) (by kernel_rfl) (⟨⟨_, HN_1.out.drew⟩, HE_1.out.drew, HM_1.out.va.drew⟩) ?_
 intro hHeld
 have bz := (Below.refl w1.heap.size w1).drew
 have HM_z := hI_ (HM_1.out.step bz)
 have HT_z := hI_ (HT_1.out.step bz)
 have HN_z := hI_ (HN_1.out.step bz)
 have HE_z := hI_ (HE_1.out.step bz)
 have HTR_z := hI_ (HTR_1.out.step bz)
 have BB_z := hI_ (BB_1.out.trans (bz.mono BB_1.out.size))
 generalize w1.drew = wz at *
 clear bz
 refine tK 0 12 (.pointer (some ⟨F.pm, 0, none⟩)) (by exact rfl) (Or.inl ⟨by rfl, ?_⟩) ?_
 ·intro wq hS
  go_simp
 try simp only [nrm]
 refine tK 1 13 (.pointer (some ⟨F.pm, 0, none⟩)) (by exact rfl) (Or.inl ⟨by rfl, ?_⟩) ?_
 ·intro wq hS
  go_simp
 try simp only [nrm]
 refine tK 2 14 (.pointer (some ⟨F.pm, 1, none⟩)) (by exact rfl) (Or.inl ⟨by rfl, ?_⟩) ?_
 ·intro wq hS
  go_simp
 try simp only [nrm]
 refine tK 3 15 (.pointer (some ⟨F.pc, 0, none⟩)) (by exact rfl) (Or.inl ⟨by rfl, ?_⟩) ?_
 ·intro wq hS
  have c := VA.cell hS.2.2 1 (v := .pointer (some ⟨F.pc, 0, none⟩)) rfl
  go_simp
 try simp only [nrm]
 refine tK 4 16 (.agg (e.cells tv).toArray) (by exact rfl) (yieldsIf_load_mid (by rfl) _ _ rfl _ _ rfl _ _ (fun wq hS => (fun j u hj => by rw [Nat.zero_add]; exact VA.cell hS.2.1 j hj)) Tryz.underlying31 rfl ai) ?_
 try simp only [nrm]
 clear hHeld
 refine rdy 5 (fun K hK => ?_)
 go_simp
 refine Calls.mono (fq e tv wz HTF.out) ?_
 rintro e wu ⟨rfl, bu⟩
 have HM_u := hI_ (HM_z.out.step bu)
 have HT_u := hI_ (HT_z.out.step bu)
 have HN_u := hI_ (HN_z.out.step bu)
 have HE_u := hI_ (HE_z.out.step bu)
 have HTR_u := hI_ (HTR_z.out.step bu)
 have BB_u := hI_ (BB_z.out.trans (bu.mono BB_z.out.size))
 clear bu
 go_wp2_with fail
 refine hK.out _ _ (⟨⟨_, HN_u.out⟩, HE_u.out, HM_u.out.va⟩) (fun hHeld => ?_)
 try simp only [nrm]
 clear hK K
 clear hHeld
 refine rdy 6 (fun K hK => ?_)
 go_simp
 refine Calls.mono (rT wu B F M HM_u.out e.pv tv (EV.pvwf H_he.out) HTR_u.out H_hno.out H_h0.out) ?_
 rintro r w4 ⟨rfl, h1, h2⟩
 have HM_4 : Hid (MD w4 B F _) := h1
 have hn : ∀ {p : Nat} {cs : List Value} {T : TypeId}, VA wu p cs T → T ≠ 154 → T ≠ 208 → ¬ (p = F.pc ∨ p = F.bm ∨ (B ≤ p ∧ ∃ cs fr, wu.heap[p]? = some (Obj.cells cs 208 fr))) := fun v n1 n2 hj => by
  obtain ⟨sv, hV⟩ := HM_u.out.cbm
  rcases hj with e | e | ⟨hBj, cs, fr, e⟩
  ·exact v.ne hV n1 e
  ·exact v.neM (HM_u.out.catO hV).1 e
  ·have := v.blk.symm.trans e
   simp only [Option.some.injEq, Obj.cells.injEq] at this
   exact n2 this.2.1
 have HN_4 := hI_ (HN_u.out.but h2 (hn HN_u.out (by decide) (by decide)))
 have HE_4 := hI_ (HE_u.out.but h2 (hn HE_u.out (by decide) (by decide)))
 have HB_4 : Hid (But (F.reach w B) w w4) := (af BB_u.out (F.reach w B)).trans h2 (fun j hl hj => by
  rcases hj with e | e | ⟨hBj, cs, fr, e⟩
  ·exact HPC.out j (Or.inl e)
  ·exact HPC.out j (Or.inr e)
  ·exact Or.inr (Or.inr (Or.inr (Or.inr ⟨hBj, cs, fr, by rw [← BB_u.out.block j hl]; exact e⟩))))
 clear h1 h2 hn
 go_wp2_with fail
 refine hK.out _ _ ⟨⟨_, HN_4.out⟩, HE_4.out, HM_4.out.va⟩ (fun hHeld => ?_)
 try simp only [nrm]
 clear hK K hHeld
 refine wpAnyH_done (by kernel_rfl) ?_ _
 refine NoPanic.normal ?_
 go_wp2_with fail
 exact bodyPost_end (v := .tuple #[]) (by simp [results, Tryz.results55, go_sem]) rfl ⟨rfl, HM_4.out, HB_4.out⟩
set_option maxRecDepth 100000 in
theorem gN (w : World) (B : Nat) (v u : Value) (xs : List Nat) (y : Nat) (h : Own KP w B v xs) (hu : Sl KP w u [y]) (hno : ∀ n c, u = .slice none n c → c = 0) (hB : B ≤ w.heap.size) (hl : xs.length ≤ 256) :
    Calls Tryz.prog 139 #[v, .int .i64 (xs.length : Int), u] w fun e w' => ∃ v', e = .returned v' ∧ Own KP w' B v' (xs ++ [y]) ∧ Below B w w' ∧ w.grownBy w' v.ownBlock := by
  obtain ⟨sa, sc, rfl, hc1, hc2⟩ := h.form
  obtain ⟨ua, uc, rfl, hd1, hd2, hd3⟩ := hu.form
  have HX := hI_ h
  have HU := hI_ hu
  have HNO := hI_ hno
  have HBB := hI_ hB
  have HLL := hI_ hl
  obtain ⟨n, hn⟩ : ∃ n, n = xs.length := ⟨_, rfl⟩
  have HN := hI_ hn
  rw [← hn] at hc1 hl ⊢
  clear h hu hno hB hn hd1 hd2 hd3
  have g1 : (n : Int) ≤ sc := by omega
  have g2 : (sc : Int) ≤ 9223372036854775807 := by omega
  have g3 : (n : Int) ≤ 256 := by omega
  go_enter Tryz.func139, Tryz.ntmps139
  go_wp2_with (at_builtin; refine wJ (K := KP) rfl _ _ rfl B xs [y] (.slice sa n sc) (.slice ua 1 uc) (by rfl) (by rfl) (by rw [HN.out]; exact HX.out) HU.out HNO.out HBB.out (by have := HLL.out; show (xs.length + 1) * 8 ≤ _; omega) (by have := HLL.out; show xs.length + 1 ≤ _; omega) ?_; intro v1 w1 o1 b1 q1)
  all_goals (refine bodyPost_ret (v := v1) (by simp [results, Tryz.results139, go_sem]) rfl ⟨v1, rfl, o1, b1, ?_⟩)
  all_goals first
    | exact q1
    | (have e : sc = n := by assumption
       rw [e] at q1
       exact q1)
def FB.more (F : FB) (v : Value) (p hb : Nat) : FB := { F with sv := v, ab := F.ab ++ [(p, hb)] }
theorem MD.maps_lt {w : World} {B : Nat} {F : FB} {M : PM} (h : MD w B F M) {j : Nat} (hj : j ∈ F.maps) : j < w.heap.size := by
 unfold FB.maps at hj
 simp only [List.mem_cons, List.mem_map] at hj
 rcases hj with rfl | rfl | rfl | rfl | ⟨x, hx, rfl⟩
 ·obtain ⟨sv, hV⟩ := h.cbm
  obtain ⟨es, c, e⟩ := (h.catO hV).1
  exact (Array.getElem?_eq_some_iff.1 e).1
 ·exact h.core_lt (Or.inr (Or.inr (Or.inl rfl)))
 ·exact h.rts.lt
 ·exact h.kys.lt
 ·exact h.core_lt (Or.inr (Or.inr (Or.inr (Or.inr (Or.inr ⟨x, hx, Or.inr rfl⟩)))))
theorem gR {l : List Nat} {n : Nat} (h : l.Nodup) (hn : n ∉ l) : (l ++ [n]).Nodup := by
 refine List.nodup_append.2 ⟨h, by simp, fun a ha b hb e => ?_⟩
 simp at hb
 subst hb
 subst e
 exact hn ha
theorem MD.addA {w w' : World} {B : Nat} {F : FB} {M : PM} {a : PA} {p hb : Nat} {v : Value} (h : MD w B F M) (k : But (fun j => j = F.pm ∨ F.sv.ownBlock = some j) w w') (hp : w.heap.size ≤ p) (hh : w.heap.size ≤ hb) (V : VA w' F.pm (mcells (F.more v p hb) M) 100) (R : Own KP w' B v ((F.ab ++ [(p, hb)]).map (·.1))) (W : VA w' p (a.cells hb) 85) (A : AM KI encI w' hb a.hs) (hw : a.wf) (hid : ∀ b ∈ M.al, b.id < a.id) (hl : M.al.length < 256) : MD w' B (F.more v p hb) { M with al := M.al ++ [a] } := by
 obtain ⟨S, hC⟩ := h.cat
 obtain ⟨sv, hV⟩ := h.cbm
 have hlt := h.lt
 have nv : ∀ {q : Nat} {cs : List Value} {T : TypeId}, VA w q cs T → T ≠ 100 → T ≠ 81 → ¬ (q = F.pm ∨ F.sv.ownBlock = some q) := fun u h1 h2 e => by
  rcases e with e | e
  ·exact u.ne h.va h1 e
  ·obtain ⟨cs, e3⟩ := h.row.blkT e
   have := u.blk.symm.trans e3
   simp only [Option.some.injEq, Obj.cells.injEq] at this
   exact h2 this.2.1
 have nm : ∀ {q : Nat}, (∃ es c, w.heap[q]? = some (Obj.map es c)) → ¬ (q = F.pm ∨ F.sv.ownBlock = some q) := fun hq e => by
  rcases e with e | e
  ·exact h.va.neM hq e.symm
  ·obtain ⟨cs, e3⟩ := h.row.blkT e
   obtain ⟨es, c, e4⟩ := hq
   have := e3.symm.trans e4
   cases this
 refine ⟨V, ⟨S, hC.butM hV k (fun j hj => ?_)⟩, ⟨sv, hV.but k (nv hV (by decide) (by decide))⟩, h.led.but k (nv h.led.va (by decide) (by decide)) (nm (bW h.led.map)), h.rts.but k (nm h.rts.isMap), h.kys.but k (nm h.kys.isMap), R, ?_, fun j b y hb' hy => ?_, ?_, ?_, ?_, ?_⟩
 ·rcases hj with rfl | hj
  ·exact NC.cells h.va (by decide) (by decide) (by decide)
  ·obtain ⟨cs, e3⟩ := h.row.blkT hj
   exact Or.inl ⟨_, _, _, e3, by decide, by decide, by decide⟩
 ·show (F.ab ++ [(p, hb)]).length = (M.al ++ [a]).length
  rw [List.length_append, List.length_append, h.len]
  rfl
 ·have hb' : (M.al ++ [a])[j]? = some b := hb'
  have hy : (F.ab ++ [(p, hb)])[j]? = some y := hy
  rcases Nat.lt_or_ge j M.al.length with hj | hj
  ·rw [List.getElem?_append_left hj] at hb'
   rw [List.getElem?_append_left (by rw [h.len]; exact hj)] at hy
   have o := h.acs j b y hb' hy
   exact ⟨o.1.but k (nv o.1 (by decide) (by decide)), o.2.but k (nm o.2.isMap)⟩
  ·rw [List.getElem?_append_right hj] at hb'
   rw [List.getElem?_append_right (by rw [h.len]; exact hj), h.len] at hy
   cases hd : j - M.al.length with
   | zero =>
    rw [hd] at hb' hy
    simp at hb' hy
    subst hb' hy
    exact ⟨W, A⟩
   | succ n => rw [hd] at hb'; simp at hb'
 ·obtain ⟨l1, l2, l3, l4, l5, l6⟩ := h.low
  refine ⟨l1, l2, l3, l4, l5, fun x hx => ?_⟩
  rcases List.mem_append.1 hx with hx | hx
  ·exact l6 x hx
  ·simp at hx
   subst hx
   exact ⟨by show B ≤ p; omega, by show B ≤ hb; omega⟩
 ·have e : (F.more v p hb).maps = F.maps ++ [hb] := by
   unfold FB.maps FB.more
   simp
  rw [e]
  exact gR h.mps (fun hm => by have := h.maps_lt hm; omega)
 ·have e : (F.more v p hb).ab.map (·.1) = F.ab.map (·.1) ++ [p] := by
   unfold FB.more
   simp
  rw [e]
  refine gR h.abs (fun hm => ?_)
  obtain ⟨x, hx, rfl⟩ := List.mem_map.1 hm
  have := h.core_lt (Or.inr (Or.inr (Or.inr (Or.inr (Or.inr ⟨x, hx, Or.inl rfl⟩)))))
  omega
 ·have hw0 := h.wf
  refine ⟨hw0.day, fun b hb' => ?_, ?_, ?_, hw0.rats, hw0.seq, hw0.run, hw0.adds⟩
  ·rcases List.mem_append.1 hb' with hb' | hb'
   ·exact hw0.acs b hb'
   ·simp at hb'
    subst hb'
    exact hw
  ·show (M.al ++ [a]).Pairwise _
   refine List.pairwise_append.2 ⟨hw0.sort, by simp, fun b hb' c hc => ?_⟩
   simp at hc
   subst hc
   exact hid b hb'
  ·show (M.al ++ [a]).length ≤ 256
   rw [List.length_append]
   simp
   omega
end Go.Proofs.YtjkiplndbcmmbaaGreatDoor