/- texts of the model: Mox Mqb Mqc Mqd Mqe Mqf Moq Mor Mqh Mqi Mqk -/
import Derived.Test.YtjkiplndbcmmbaaGreatDoorW32
import Derived.Test.YtjkiplndbcmmbaaGreatDoorW28
set_option linter.unusedVariables false
set_option linter.unusedSimpArgs false
set_option maxHeartbeats 16000000
set_option maxRecDepth 100000
namespace Go.Proofs.YtjkiplndbcmmbaaGreatDoor
open Tryz
open Go.RowKit Go.Maps
def FB.core (F : FB) (j : Nat) : Prop := j = F.pm ∨ j = F.pl ∨ j = F.ml ∨ j = F.rm ∨ j = F.km ∨ ∃ x ∈ F.ab, j = x.1 ∨ j = x.2
theorem gi {F : FB} {i : Nat} {x : Nat × Nat} (hx : F.ab[i]? = some x) {j : Nat} (h : j = x.1 ∨ j = x.2) : F.core j := Or.inr (Or.inr (Or.inr (Or.inr (Or.inr ⟨x, List.mem_of_getElem? hx, h⟩))))
theorem mJ {F : FB} {i : Nat} {x : Nat × Nat} (hx : F.ab[i]? = some x) {j : Nat} (h : j = F.pl ∨ j = F.ml ∨ j = x.1) : F.core j := by
 rcases h with h | h | h
 ·exact Or.inr (Or.inl h)
 ·exact Or.inr (Or.inr (Or.inl h))
 ·exact gi hx (Or.inl h)
theorem gj {F : FB} {i k : Nat} {x y : Nat × Nat} (hx : F.ab[i]? = some x) (hy : F.ab[k]? = some y) {j : Nat} (h : j = F.pl ∨ j = F.ml ∨ j = x.1 ∨ j = y.1) : F.core j := by
 rcases h with h | h | h | h
 ·exact Or.inr (Or.inl h)
 ·exact Or.inr (Or.inr (Or.inl h))
 ·exact gi hx (Or.inl h)
 ·exact gi hy (Or.inl h)
theorem MD.core_lt {w : World} {B : Nat} {F : FB} {M : PM} (h : MD w B F M) {j : Nat} (hj : F.core j) : j < w.heap.size := by
 rcases hj with rfl | rfl | rfl | rfl | rfl | ⟨x, hx, hj⟩
 ·exact h.va.lt
 ·exact h.led.va.lt
 ·obtain ⟨es, c, e⟩ := bO h.led.map
  exact (Array.getElem?_eq_some_iff.1 e).1
 ·exact h.rts.lt
 ·exact h.kys.lt
 ·obtain ⟨i, hi⟩ := List.getElem?_of_mem hx
  have hl := (List.getElem?_eq_some_iff.1 hi).1
  obtain ⟨a, ha⟩ : ∃ a, M.al[i]? = some a := ⟨_, List.getElem?_eq_getElem (by rw [← h.len]; exact hl)⟩
  rcases hj with rfl | rfl
  ·exact (h.acs i a x ha hi).1.lt
  ·exact (h.acs i a x ha hi).2.lt
theorem MD.core_low {w : World} {B : Nat} {F : FB} {M : PM} (h : MD w B F M) {j : Nat} (hj : F.core j) : B ≤ j := by
 have l := h.low
 rcases hj with rfl | rfl | rfl | rfl | rfl | ⟨x, hx, rfl | rfl⟩
 ·exact l.1
 ·exact l.2.1
 ·exact l.2.2.1
 ·exact l.2.2.2.1
 ·exact l.2.2.2.2.1
 ·exact (l.2.2.2.2.2 x hx).1
 ·exact (l.2.2.2.2.2 x hx).2
theorem bn (w : World) (B : Nat) (F : FB) (M : PM) (h : MD w B F M) {i : Nat} {a : PA} {x : Nat × Nat} (hi : IsA F M i a x) {n : Int} (hn : a.id = n) :
  Calls prog 34 #[.pointer (some ⟨F.pm, 0, none⟩), .int .i64 n] w fun e w' => e = .returned (.pointer (some ⟨x.1, 0, none⟩)) ∧ w' = w := by
 subst hn
 exact fq w B F M h hi
theorem xW {α β : Type} [DecidableEq α] {w : World} {y : Nat → Option Bool} {o : Oper} {a : Act} {Q : Exit → Act → World → Prop} {K' : Act → World → Prop} {k0 : Prop} (hgd : Region.wanted o y = true) (m x v : Operand) (t : TypeId) (hop : o.op = Op.mapUpdate t m x v)
  (K : KK α) (enc : β → Value) (e : TypeId) (ht : prog.underlying t = some (.map K.kt e)) (b : Nat) (xs : List (α × β)) (hm : a.eval m = .map (some b)) (h : AM K enc w b xs) (hn : xs.length < maxLen)
  (key : α) (val : β) (hx : a.eval x = K.kv key) (hv : a.eval v = enc val) (ha : K.ok key)
  (hK : ∀ w', AM K enc w' b ((key, val) :: xs) → w.mapTurned w' b → K' (a.put o.dst undef) w') : if Region.wanted o y = true then o.wp prog a w K' Q else k0 := by
 rw [if_pos hgd]
 obtain ⟨w', hrun, r1, r2⟩ := h.store ht hn ha val
 unfold Oper.wp
 simp [execOp, hop, hm, hx, hv, hrun, Result.andThen]
 exact hK w' r1 r2
theorem pQ (w : World) (B : Nat) (F : FB) (M : PM) (hM : MD w B F M) (T : TBL w) (hB : 6 ≤ B) (e : EV) (tv : Value) (hop : e.op = 4) (i : Nat) (a : PA) (x : Nat × Nat) (hi : IsA F M i a x) (hid : a.id = e.n0) (n1 : 1 ≤ e.n1) (n2 : e.n1 ≤ 10000000000000) (v1 : -10000000000000 ≤ a.bal + e.n1) (v2 : a.bal + e.n1 ≤ 10000000000000) (hm : 0 ≤ M.n ∧ M.n ≤ 4611686018427387904) :
  Calls prog 55 #[.pointer (some ⟨F.pm, 0, none⟩), .agg (e.cells tv).toArray] w fun r w' => r = .returned (.tuple #[]) ∧ MD w' B F (cashM M i a e.n1) ∧ But F.core w w' := by
 obtain ⟨HE0, HB0, HN0, y0, y1, y2, y3, y4, y5, y6, y7⟩ := cr w e tv
 have HH : Hid (MD w B F M ∧ TBL w) := ⟨hM, T⟩
 have HQ : Hid (6 ≤ B ∧ ∀ j, F.core j → j < w.heap.size) := ⟨hB, fun j hj => hM.core_lt hj⟩
 have HOP : Hid (e.op = 4) := hop
 have H_hi := hI_ hi
 have H_hid := hI_ hid
 have H_hm := hI_ hm
 clear hi hid hm hM T hB hop
 go_enter func55, ntmps55
 go_upto_region 2 with (refine eSt e HN0 ?_; intro w1 hv1 hu1)
 have hb1 := hu1.bel HB0.out (by omega)
 have HM_1 : Hid (MD w1 B F M) := HH.out.1.step hb1
 have HT_1 : Hid (TBL w1) := HH.out.2.step hb1
 have BB_1 := hI_ hb1
 have HE_1 := hI_ (HE0.out.upd hu1 (by omega))
 have HN_1 := hI_ hv1
 have y := eY 4 HE_1 HOP
 clear hb1 hv1 hu1 HN0 HE0 HB0 HH y0 y1 y2 y3 y4 y5 y6 y7
 go_upto_region 11 with fail
 clear y
 refine wp_region_noPanic ?_
 refine wp_region_held_drew (S := fun V => VA V (w.heap.size + 1) [.int .i64 e.n0, .int .i64 e.n1, .int .i64 e.n2, .int .i64 e.n3, .int .i64 e.n4, .int .i64 e.n5, .int .i64 e.n6, .int .i64 e.n7] 28) (by kernel_rfl) (HN_1.out.drew) ?_
 intro hh_
 have bz := (Below.refl w1.heap.size w1).drew
 have HM_z := hI_ (HM_1.out.step bz)
 have HT_z := hI_ (HT_1.out.step bz)
 have HN_z := hI_ (HN_1.out.step bz)
 have BB_z := hI_ (BB_1.out.trans (bz.mono BB_1.out.size))
 generalize w1.drew = wz at *
 clear bz
 refine tL 0 43 (.pointer (some ⟨F.pm, 0, none⟩)) ?_ ?_
 ·intro wq hS
  go_simp
 try simp only [nrm]
 refine tL 1 44 (.pointer (some ⟨F.pm, 0, none⟩)) ?_ ?_
 ·intro wq hS
  go_simp
 try simp only [nrm]
 refine tL 2 45 (.pointer (some ⟨w.heap.size + 1, 0, none⟩)) ?_ ?_
 ·intro wq hS
  go_simp
 try simp only [nrm]
 refine tL 3 46 (.int .i64 e.n0) ?_ ?_
 ·intro wq hS
  have c := VA.cell hS 0 (v := .int .i64 e.n0) rfl
  go_simp
 try simp only [nrm]
 refine tL 5 48 (.pointer (some ⟨w.heap.size + 1, 1, none⟩)) ?_ ?_
 ·intro wq hS
  go_simp
 try simp only [nrm]
 refine tL 6 49 (.int .i64 e.n1) ?_ ?_
 ·intro wq hS
  have c := VA.cell hS 1 (v := .int .i64 e.n1) rfl
  go_simp
 try simp only [nrm]
 clear hh_
 refine rdy 4 (fun K hK => ?_)
 go_simp
 refine Calls.mono (bn wz B F M HM_z.out H_hi.out H_hid.out) ?_
 rintro e wq ⟨rfl, hwq⟩
 obtain rfl := hwq.symm
 clear hwq
 go_wp2_with fail
 refine hK.out _ _ (HN_z.out) (fun hh_ => ?_)
 try simp only [nrm]
 clear hK K hh_
 refine rdy 7 (fun K hK => ?_)
 go_simp
 refine (kH wz B F M HM_z.out HT_z.out HQ.out.1 i a x H_hi.out e.n1 (by omega) (by omega) v1 v2 H_hm.out).mono ?_
 rintro r w4 ⟨rfl, h1, h2⟩
 have HM_4 : Hid (MD w4 B F _) := h1
 have HN_4 : Hid (VA w4 (w.heap.size + 1) [.int .i64 e.n0, .int .i64 e.n1, .int .i64 e.n2, .int .i64 e.n3, .int .i64 e.n4, .int .i64 e.n5, .int .i64 e.n6, .int .i64 e.n7] 28) := HN_z.out.but h2 (fun hj => by have := HQ.out.2 _ (mJ H_hi.out.x hj); omega)
 have HB_4 : Hid (But F.core w w4) := (ac BB_z.out F.core).trans h2 (fun j _ hj => mJ H_hi.out.x hj)
 clear h1 h2
 go_wp2_with fail
 refine hK.out _ _ HN_4.out (fun hh_ => ?_)
 try simp only [nrm]
 clear hK K hh_
 refine dN ?_
 go_wp2_with fail
 exact bodyPost_end (v := .tuple #[]) (by simp [results, results55, go_sem]) rfl ⟨rfl, HM_4.out, HB_4.out⟩
theorem pR (w : World) (B : Nat) (F : FB) (M : PM) (hM : MD w B F M) (T : TBL w) (hB : 6 ≤ B) (e : EV) (tv : Value) (hop : e.op = 5) (i : Nat) (a : PA) (x : Nat × Nat) (hi : IsA F M i a x) (hid : a.id = e.n0) (n1 : 1 ≤ e.n1) (n2 : e.n1 ≤ 10000000000000) (v1 : -10000000000000 ≤ a.bal + -e.n1) (v2 : a.bal + -e.n1 ≤ 10000000000000) (hm : 0 ≤ M.n ∧ M.n ≤ 4611686018427387904) :
  Calls prog 55 #[.pointer (some ⟨F.pm, 0, none⟩), .agg (e.cells tv).toArray] w fun r w' => r = .returned (.tuple #[]) ∧ MD w' B F (cashM M i a (-e.n1)) ∧ But F.core w w' := by
 obtain ⟨HE0, HB0, HN0, y0, y1, y2, y3, y4, y5, y6, y7⟩ := cr w e tv
 have HH : Hid (MD w B F M ∧ TBL w) := ⟨hM, T⟩
 have HQ : Hid (6 ≤ B ∧ ∀ j, F.core j → j < w.heap.size) := ⟨hB, fun j hj => hM.core_lt hj⟩
 have HOP : Hid (e.op = 5) := hop
 have H_hi := hI_ hi
 have H_hid := hI_ hid
 have H_hm := hI_ hm
 clear hi hid hm hM T hB hop
 go_enter func55, ntmps55
 go_upto_region 2 with (refine eSt e HN0 ?_; intro w1 hv1 hu1)
 have hb1 := hu1.bel HB0.out (by omega)
 have HM_1 : Hid (MD w1 B F M) := HH.out.1.step hb1
 have HT_1 : Hid (TBL w1) := HH.out.2.step hb1
 have BB_1 := hI_ hb1
 have HE_1 := hI_ (HE0.out.upd hu1 (by omega))
 have HN_1 := hI_ hv1
 have y := eY 5 HE_1 HOP
 clear hb1 hv1 hu1 HN0 HE0 HB0 HH y0 y1 y2 y3 y4 y5 y6 y7
 go_upto_region 13 with fail
 clear y
 refine wp_region_noPanic ?_
 refine wp_region_held_drew (S := fun V => VA V (w.heap.size + 1) [.int .i64 e.n0, .int .i64 e.n1, .int .i64 e.n2, .int .i64 e.n3, .int .i64 e.n4, .int .i64 e.n5, .int .i64 e.n6, .int .i64 e.n7] 28) (by kernel_rfl) (HN_1.out.drew) ?_
 intro hh_
 have bz := (Below.refl w1.heap.size w1).drew
 have HM_z := hI_ (HM_1.out.step bz)
 have HT_z := hI_ (HT_1.out.step bz)
 have HN_z := hI_ (HN_1.out.step bz)
 have BB_z := hI_ (BB_1.out.trans (bz.mono BB_1.out.size))
 generalize w1.drew = wz at *
 clear bz
 refine tL 0 53 (.pointer (some ⟨F.pm, 0, none⟩)) ?_ ?_
 ·intro wq hS
  go_simp
 try simp only [nrm]
 refine tL 1 54 (.pointer (some ⟨F.pm, 0, none⟩)) ?_ ?_
 ·intro wq hS
  go_simp
 try simp only [nrm]
 refine tL 2 55 (.pointer (some ⟨w.heap.size + 1, 0, none⟩)) ?_ ?_
 ·intro wq hS
  go_simp
 try simp only [nrm]
 refine tL 3 56 (.int .i64 e.n0) ?_ ?_
 ·intro wq hS
  have c := VA.cell hS 0 (v := .int .i64 e.n0) rfl
  go_simp
 try simp only [nrm]
 refine tL 5 58 (.pointer (some ⟨w.heap.size + 1, 1, none⟩)) ?_ ?_
 ·intro wq hS
  go_simp
 try simp only [nrm]
 refine tL 6 59 (.int .i64 e.n1) ?_ ?_
 ·intro wq hS
  have c := VA.cell hS 1 (v := .int .i64 e.n1) rfl
  go_simp
 try simp only [nrm]
 refine tL 7 60 (.int .i64 (-e.n1)) ?_ ?_
 ·intro wq hS
  go_simp
  try (rw [IntKind.wrap_i64]; omega)
 try simp only [nrm]
 clear hh_
 refine rdy 4 (fun K hK => ?_)
 go_simp
 refine Calls.mono (bn wz B F M HM_z.out H_hi.out H_hid.out) ?_
 rintro e wq ⟨rfl, hwq⟩
 obtain rfl := hwq.symm
 clear hwq
 go_wp2_with fail
 refine hK.out _ _ (HN_z.out) (fun hh_ => ?_)
 try simp only [nrm]
 clear hK K hh_
 refine rdy 8 (fun K hK => ?_)
 go_simp
 refine (kH wz B F M HM_z.out HT_z.out HQ.out.1 i a x H_hi.out (-e.n1) (by omega) (by omega) v1 v2 H_hm.out).mono ?_
 rintro r w4 ⟨rfl, h1, h2⟩
 have HM_4 : Hid (MD w4 B F _) := h1
 have HN_4 : Hid (VA w4 (w.heap.size + 1) [.int .i64 e.n0, .int .i64 e.n1, .int .i64 e.n2, .int .i64 e.n3, .int .i64 e.n4, .int .i64 e.n5, .int .i64 e.n6, .int .i64 e.n7] 28) := HN_z.out.but h2 (fun hj => by have := HQ.out.2 _ (mJ H_hi.out.x hj); omega)
 have HB_4 : Hid (But F.core w w4) := (ac BB_z.out F.core).trans h2 (fun j _ hj => mJ H_hi.out.x hj)
 clear h1 h2
 go_wp2_with fail
 refine hK.out _ _ HN_4.out (fun hh_ => ?_)
 try simp only [nrm]
 clear hK K hh_
 refine dN ?_
 go_wp2_with fail
 exact bodyPost_end (v := .tuple #[]) (by simp [results, results55, go_sem]) rfl ⟨rfl, HM_4.out, HB_4.out⟩
theorem pS (w : World) (B : Nat) (F : FB) (M : PM) (hM : MD w B F M) (T : TBL w) (hB : 6 ≤ B) (e : EV) (tv : Value) (hop : e.op = 6) (i : Nat) (a : PA) (x : Nat × Nat) (hi : IsA F M i a x) (hid : a.id = e.n0) (j : Nat) (b : PA) (y : Nat × Nat) (hj : IsA F M j b y) (hjd : b.id = e.n1) (hij : i ≠ j) (n1 : 1 ≤ e.n2) (n2 : e.n2 ≤ 10000000000000) (v1 : -10000000000000 ≤ a.bal - e.n2) (v2 : a.bal - e.n2 ≤ 10000000000000) (u1 : -10000000000000 ≤ b.bal + e.n2) (u2 : b.bal + e.n2 ≤ 10000000000000) (hm : 0 ≤ M.n ∧ M.n ≤ 4611686018427387904) :
  Calls prog 55 #[.pointer (some ⟨F.pm, 0, none⟩), .agg (e.cells tv).toArray] w fun r w' => r = .returned (.tuple #[]) ∧ MD w' B F (twoM M i a (a.bal - e.n2) j b (b.bal + e.n2) 2 2 e.n2) ∧ But F.core w w' := by
 obtain ⟨HE0, HB0, HN0, y0, y1, y2, y3, y4, y5, y6, y7⟩ := cr w e tv
 have HH : Hid (MD w B F M ∧ TBL w) := ⟨hM, T⟩
 have HQ : Hid (6 ≤ B ∧ ∀ j, F.core j → j < w.heap.size) := ⟨hB, fun j hj => hM.core_lt hj⟩
 have HOP : Hid (e.op = 6) := hop
 have H_hi := hI_ hi
 have H_hid := hI_ hid
 have H_hj := hI_ hj
 have H_hjd := hI_ hjd
 have H_hij := hI_ hij
 have H_hm := hI_ hm
 clear hi hid hj hjd hij hm hM T hB hop
 go_enter func55, ntmps55
 go_upto_region 2 with (refine eSt e HN0 ?_; intro w1 hv1 hu1)
 have hb1 := hu1.bel HB0.out (by omega)
 have HM_1 : Hid (MD w1 B F M) := HH.out.1.step hb1
 have HT_1 : Hid (TBL w1) := HH.out.2.step hb1
 have BB_1 := hI_ hb1
 have HE_1 := hI_ (HE0.out.upd hu1 (by omega))
 have HN_1 := hI_ hv1
 have y := eY 6 HE_1 HOP
 clear hb1 hv1 hu1 HN0 HE0 HB0 HH y0 y1 y2 y3 y4 y5 y6 y7
 go_upto_region 15 with fail
 clear y
 refine wp_region_noPanic ?_
 refine wp_region_held_drew (S := fun V => VA V (w.heap.size + 1) [.int .i64 e.n0, .int .i64 e.n1, .int .i64 e.n2, .int .i64 e.n3, .int .i64 e.n4, .int .i64 e.n5, .int .i64 e.n6, .int .i64 e.n7] 28) (by kernel_rfl) (HN_1.out.drew) ?_
 intro hh_
 have bz := (Below.refl w1.heap.size w1).drew
 have HM_z := hI_ (HM_1.out.step bz)
 have HT_z := hI_ (HT_1.out.step bz)
 have HN_z := hI_ (HN_1.out.step bz)
 have BB_z := hI_ (BB_1.out.trans (bz.mono BB_1.out.size))
 generalize w1.drew = wz at *
 clear bz
 refine tL 0 64 (.pointer (some ⟨F.pm, 0, none⟩)) ?_ ?_
 ·intro wq hS
  go_simp
 try simp only [nrm]
 refine tL 1 65 (.pointer (some ⟨F.pm, 0, none⟩)) ?_ ?_
 ·intro wq hS
  go_simp
 try simp only [nrm]
 refine tL 2 66 (.pointer (some ⟨w.heap.size + 1, 0, none⟩)) ?_ ?_
 ·intro wq hS
  go_simp
 try simp only [nrm]
 refine tL 3 67 (.int .i64 e.n0) ?_ ?_
 ·intro wq hS
  have c := VA.cell hS 0 (v := .int .i64 e.n0) rfl
  go_simp
 try simp only [nrm]
 refine tL 5 69 (.pointer (some ⟨F.pm, 0, none⟩)) ?_ ?_
 ·intro wq hS
  go_simp
 try simp only [nrm]
 refine tL 6 70 (.pointer (some ⟨w.heap.size + 1, 1, none⟩)) ?_ ?_
 ·intro wq hS
  go_simp
 try simp only [nrm]
 refine tL 7 71 (.int .i64 e.n1) ?_ ?_
 ·intro wq hS
  have c := VA.cell hS 1 (v := .int .i64 e.n1) rfl
  go_simp
 try simp only [nrm]
 refine tL 9 73 (.pointer (some ⟨w.heap.size + 1, 2, none⟩)) ?_ ?_
 ·intro wq hS
  go_simp
 try simp only [nrm]
 refine tL 10 74 (.int .i64 e.n2) ?_ ?_
 ·intro wq hS
  have c := VA.cell hS 2 (v := .int .i64 e.n2) rfl
  go_simp
 try simp only [nrm]
 clear hh_
 refine rdy 4 (fun K hK => ?_)
 go_simp
 refine Calls.mono (bn wz B F M HM_z.out H_hi.out H_hid.out) ?_
 rintro e wq ⟨rfl, hwq⟩
 obtain rfl := hwq.symm
 clear hwq
 go_wp2_with fail
 refine hK.out _ _ (HN_z.out) (fun hh_ => ?_)
 try simp only [nrm]
 clear hK K hh_
 refine rdy 8 (fun K hK => ?_)
 go_simp
 refine Calls.mono (bn wz B F M HM_z.out H_hj.out H_hjd.out) ?_
 rintro e wq ⟨rfl, hwq⟩
 obtain rfl := hwq.symm
 clear hwq
 go_wp2_with fail
 refine hK.out _ _ (HN_z.out) (fun hh_ => ?_)
 try simp only [nrm]
 clear hK K hh_
 refine rdy 11 (fun K hK => ?_)
 go_simp
 refine (jA wz B F M HM_z.out HT_z.out HQ.out.1 i j a b x y H_hi.out H_hj.out H_hij.out e.n2 (by omega) (by omega) v1 v2 u1 u2 H_hm.out).mono ?_
 rintro r w4 ⟨rfl, h1, h2⟩
 have HM_4 : Hid (MD w4 B F _) := h1
 have HN_4 : Hid (VA w4 (w.heap.size + 1) [.int .i64 e.n0, .int .i64 e.n1, .int .i64 e.n2, .int .i64 e.n3, .int .i64 e.n4, .int .i64 e.n5, .int .i64 e.n6, .int .i64 e.n7] 28) := HN_z.out.but h2 (fun hj => by have := HQ.out.2 _ (gj H_hi.out.x H_hj.out.x hj); omega)
 have HB_4 : Hid (But F.core w w4) := (ac BB_z.out F.core).trans h2 (fun j _ hj => gj H_hi.out.x H_hj.out.x hj)
 clear h1 h2
 go_wp2_with fail
 refine hK.out _ _ HN_4.out (fun hh_ => ?_)
 try simp only [nrm]
 clear hK K hh_
 refine dN ?_
 go_wp2_with fail
 exact bodyPost_end (v := .tuple #[]) (by simp [results, results55, go_sem]) rfl ⟨rfl, HM_4.out, HB_4.out⟩
theorem pT (w : World) (B : Nat) (F : FB) (M : PM) (hM : MD w B F M) (T : TBL w) (hB : 6 ≤ B) (e : EV) (tv : Value) (hop : e.op = 7) (i : Nat) (a : PA) (x : Nat × Nat) (hi : IsA F M i a x) (hid : a.id = e.n0) (n1 : 1 ≤ e.n2) (n2 : e.n2 ≤ 10000000000000) (hk : 1 ≤ e.n1 ∧ e.n1 ≤ 1000000000) (h0 : lkA a.hs e.n1 = none) (hl : a.hs.length < 64) (hh : a.held + e.n2 ≤ 20000000000000) :
  Calls prog 55 #[.pointer (some ⟨F.pm, 0, none⟩), .agg (e.cells tv).toArray] w fun r w' => r = .returned (.tuple #[]) ∧ MD w' B F ({ M with al := M.al.set i (heldA a e.n1 e.n2) }) ∧ But F.core w w' := by
 obtain ⟨HE0, HB0, HN0, y0, y1, y2, y3, y4, y5, y6, y7⟩ := cr w e tv
 have HH : Hid (MD w B F M ∧ TBL w) := ⟨hM, T⟩
 have HQ : Hid (6 ≤ B ∧ ∀ j, F.core j → j < w.heap.size) := ⟨hB, fun j hj => hM.core_lt hj⟩
 have HOP : Hid (e.op = 7) := hop
 have H_hi := hI_ hi
 have H_hid := hI_ hid
 have H_hk := hI_ hk
 have H_h0 := hI_ h0
 have H_hl := hI_ hl
 have H_hh := hI_ hh
 clear hi hid hk h0 hl hh hM T hB hop
 go_enter func55, ntmps55
 go_upto_region 2 with (refine eSt e HN0 ?_; intro w1 hv1 hu1)
 have hb1 := hu1.bel HB0.out (by omega)
 have HM_1 : Hid (MD w1 B F M) := HH.out.1.step hb1
 have HT_1 : Hid (TBL w1) := HH.out.2.step hb1
 have BB_1 := hI_ hb1
 have HE_1 := hI_ (HE0.out.upd hu1 (by omega))
 have HN_1 := hI_ hv1
 have y := eY 7 HE_1 HOP
 clear hb1 hv1 hu1 HN0 HE0 HB0 HH y0 y1 y2 y3 y4 y5 y6 y7
 go_upto_region 17 with fail
 clear y
 refine wp_region_noPanic ?_
 refine wp_region_held_drew (S := fun V => VA V (w.heap.size + 1) [.int .i64 e.n0, .int .i64 e.n1, .int .i64 e.n2, .int .i64 e.n3, .int .i64 e.n4, .int .i64 e.n5, .int .i64 e.n6, .int .i64 e.n7] 28) (by kernel_rfl) (HN_1.out.drew) ?_
 intro hh_
 have bz := (Below.refl w1.heap.size w1).drew
 have HM_z := hI_ (HM_1.out.step bz)
 have HT_z := hI_ (HT_1.out.step bz)
 have HN_z := hI_ (HN_1.out.step bz)
 have BB_z := hI_ (BB_1.out.trans (bz.mono BB_1.out.size))
 generalize w1.drew = wz at *
 clear bz
 refine tL 0 78 (.pointer (some ⟨F.pm, 0, none⟩)) ?_ ?_
 ·intro wq hS
  go_simp
 try simp only [nrm]
 refine tL 1 79 (.pointer (some ⟨w.heap.size + 1, 0, none⟩)) ?_ ?_
 ·intro wq hS
  go_simp
 try simp only [nrm]
 refine tL 2 80 (.int .i64 e.n0) ?_ ?_
 ·intro wq hS
  have c := VA.cell hS 0 (v := .int .i64 e.n0) rfl
  go_simp
 try simp only [nrm]
 refine tL 4 82 (.pointer (some ⟨w.heap.size + 1, 1, none⟩)) ?_ ?_
 ·intro wq hS
  go_simp
 try simp only [nrm]
 refine tL 5 83 (.int .i64 e.n1) ?_ ?_
 ·intro wq hS
  have c := VA.cell hS 1 (v := .int .i64 e.n1) rfl
  go_simp
 try simp only [nrm]
 refine tL 6 84 (.pointer (some ⟨w.heap.size + 1, 2, none⟩)) ?_ ?_
 ·intro wq hS
  go_simp
 try simp only [nrm]
 refine tL 7 85 (.int .i64 e.n2) ?_ ?_
 ·intro wq hS
  have c := VA.cell hS 2 (v := .int .i64 e.n2) rfl
  go_simp
 try simp only [nrm]
 clear hh_
 refine rdy 3 (fun K hK => ?_)
 go_simp
 refine Calls.mono (bn wz B F M HM_z.out H_hi.out H_hid.out) ?_
 rintro e wq ⟨rfl, hwq⟩
 obtain rfl := hwq.symm
 clear hwq
 go_wp2_with fail
 refine hK.out _ _ (HN_z.out) (fun hh_ => ?_)
 try simp only [nrm]
 clear hK K hh_
 refine rdy 8 (fun K hK => ?_)
 go_simp
 refine (qA wz B F M HM_z.out i a x H_hi.out e.n1 e.n2 H_hk.out n1 n2 H_h0.out H_hl.out H_hh.out).mono ?_
 rintro r w4 ⟨rfl, h1, h2⟩
 have HM_4 : Hid (MD w4 B F _) := h1
 have HN_4 : Hid (VA w4 (w.heap.size + 1) [.int .i64 e.n0, .int .i64 e.n1, .int .i64 e.n2, .int .i64 e.n3, .int .i64 e.n4, .int .i64 e.n5, .int .i64 e.n6, .int .i64 e.n7] 28) := HN_z.out.but h2 (fun hj => by have := HQ.out.2 _ (gi H_hi.out.x hj); omega)
 have HB_4 : Hid (But F.core w w4) := (ac BB_z.out F.core).trans h2 (fun j _ hj => gi H_hi.out.x hj)
 clear h1 h2
 go_wp2_with fail
 refine hK.out _ _ HN_4.out (fun hh_ => ?_)
 try simp only [nrm]
 clear hK K hh_
 refine dN ?_
 go_wp2_with fail
 exact bodyPost_end (v := .tuple #[]) (by simp [results, results55, go_sem]) rfl ⟨rfl, HM_4.out, HB_4.out⟩
theorem pU (w : World) (B : Nat) (F : FB) (M : PM) (hM : MD w B F M) (T : TBL w) (hB : 6 ≤ B) (e : EV) (tv : Value) (hop : e.op = 8) (i : Nat) (a : PA) (x : Nat × Nat) (hi : IsA F M i a x) (hid : a.id = e.n0) (z : Int) (h0 : lkA a.hs e.n1 = some z) :
  Calls prog 55 #[.pointer (some ⟨F.pm, 0, none⟩), .agg (e.cells tv).toArray] w fun r w' => r = .returned (.tuple #[]) ∧ MD w' B F ({ M with al := M.al.set i (freedA a e.n1 z) }) ∧ But F.core w w' := by
 obtain ⟨HE0, HB0, HN0, y0, y1, y2, y3, y4, y5, y6, y7⟩ := cr w e tv
 have HH : Hid (MD w B F M ∧ TBL w) := ⟨hM, T⟩
 have HQ : Hid (6 ≤ B ∧ ∀ j, F.core j → j < w.heap.size) := ⟨hB, fun j hj => hM.core_lt hj⟩
 have HOP : Hid (e.op = 8) := hop
 have H_hi := hI_ hi
 have H_hid := hI_ hid
 have H_h0 := hI_ h0
 clear hi hid h0 hM T hB hop
 go_enter func55, ntmps55
 go_upto_region 2 with (refine eSt e HN0 ?_; intro w1 hv1 hu1)
 have hb1 := hu1.bel HB0.out (by omega)
 have HM_1 : Hid (MD w1 B F M) := HH.out.1.step hb1
 have HT_1 : Hid (TBL w1) := HH.out.2.step hb1
 have BB_1 := hI_ hb1
 have HE_1 := hI_ (HE0.out.upd hu1 (by omega))
 have HN_1 := hI_ hv1
 have y := eY 8 HE_1 HOP
 clear hb1 hv1 hu1 HN0 HE0 HB0 HH y0 y1 y2 y3 y4 y5 y6 y7
 go_upto_region 19 with fail
 clear y
 refine wp_region_noPanic ?_
 refine wp_region_held_drew (S := fun V => VA V (w.heap.size + 1) [.int .i64 e.n0, .int .i64 e.n1, .int .i64 e.n2, .int .i64 e.n3, .int .i64 e.n4, .int .i64 e.n5, .int .i64 e.n6, .int .i64 e.n7] 28) (by kernel_rfl) (HN_1.out.drew) ?_
 intro hh_
 have bz := (Below.refl w1.heap.size w1).drew
 have HM_z := hI_ (HM_1.out.step bz)
 have HT_z := hI_ (HT_1.out.step bz)
 have HN_z := hI_ (HN_1.out.step bz)
 have BB_z := hI_ (BB_1.out.trans (bz.mono BB_1.out.size))
 generalize w1.drew = wz at *
 clear bz
 refine tL 0 89 (.pointer (some ⟨F.pm, 0, none⟩)) ?_ ?_
 ·intro wq hS
  go_simp
 try simp only [nrm]
 refine tL 1 90 (.pointer (some ⟨w.heap.size + 1, 0, none⟩)) ?_ ?_
 ·intro wq hS
  go_simp
 try simp only [nrm]
 refine tL 2 91 (.int .i64 e.n0) ?_ ?_
 ·intro wq hS
  have c := VA.cell hS 0 (v := .int .i64 e.n0) rfl
  go_simp
 try simp only [nrm]
 refine tL 4 93 (.pointer (some ⟨w.heap.size + 1, 1, none⟩)) ?_ ?_
 ·intro wq hS
  go_simp
 try simp only [nrm]
 refine tL 5 94 (.int .i64 e.n1) ?_ ?_
 ·intro wq hS
  have c := VA.cell hS 1 (v := .int .i64 e.n1) rfl
  go_simp
 try simp only [nrm]
 clear hh_
 refine rdy 3 (fun K hK => ?_)
 go_simp
 refine Calls.mono (bn wz B F M HM_z.out H_hi.out H_hid.out) ?_
 rintro e wq ⟨rfl, hwq⟩
 obtain rfl := hwq.symm
 clear hwq
 go_wp2_with fail
 refine hK.out _ _ (HN_z.out) (fun hh_ => ?_)
 try simp only [nrm]
 clear hK K hh_
 refine rdy 6 (fun K hK => ?_)
 go_simp
 refine (qz wz B F M HM_z.out i a x H_hi.out e.n1 z H_h0.out).mono ?_
 rintro r w4 ⟨rfl, h1, h2⟩
 have HM_4 : Hid (MD w4 B F _) := h1
 have HN_4 : Hid (VA w4 (w.heap.size + 1) [.int .i64 e.n0, .int .i64 e.n1, .int .i64 e.n2, .int .i64 e.n3, .int .i64 e.n4, .int .i64 e.n5, .int .i64 e.n6, .int .i64 e.n7] 28) := HN_z.out.but h2 (fun hj => by have := HQ.out.2 _ (gi H_hi.out.x hj); omega)
 have HB_4 : Hid (But F.core w w4) := (ac BB_z.out F.core).trans h2 (fun j _ hj => gi H_hi.out.x hj)
 clear h1 h2
 go_wp2_with fail
 refine hK.out _ _ HN_4.out (fun hh_ => ?_)
 try simp only [nrm]
 clear hK K hh_
 refine dN ?_
 go_wp2_with fail
 exact bodyPost_end (v := .tuple #[]) (by simp [results, results55, go_sem]) rfl ⟨rfl, HM_4.out, HB_4.out⟩
theorem pV (w : World) (B : Nat) (F : FB) (M : PM) (hM : MD w B F M) (T : TBL w) (hB : 6 ≤ B) (e : EV) (tv : Value) (hop : e.op = 9) (i : Nat) (a : PA) (x : Nat × Nat) (hi : IsA F M i a x) (hid : a.id = e.n0) (j : Nat) (b : PA) (y : Nat × Nat) (hj : IsA F M j b y) (hjd : b.id = e.n1) (hij : i ≠ j) (n1 : 1 ≤ e.n2) (n2 : e.n2 ≤ 10000000000000) (v1 : -10000000000000 ≤ a.bal + e.n2) (v2 : a.bal + e.n2 ≤ 10000000000000) (u1 : -10000000000000 ≤ b.bal + e.n2) (u2 : b.bal + e.n2 ≤ 10000000000000) (hm : 0 ≤ M.n ∧ M.n ≤ 4611686018427387904) :
  Calls prog 55 #[.pointer (some ⟨F.pm, 0, none⟩), .agg (e.cells tv).toArray] w fun r w' => r = .returned (.tuple #[]) ∧ MD w' B F (twoM M i a (a.bal + e.n2) j b (b.bal + e.n2) 3 2 e.n2) ∧ But F.core w w' := by
 obtain ⟨HE0, HB0, HN0, y0, y1, y2, y3, y4, y5, y6, y7⟩ := cr w e tv
 have HH : Hid (MD w B F M ∧ TBL w) := ⟨hM, T⟩
 have HQ : Hid (6 ≤ B ∧ ∀ j, F.core j → j < w.heap.size) := ⟨hB, fun j hj => hM.core_lt hj⟩
 have HOP : Hid (e.op = 9) := hop
 have H_hi := hI_ hi
 have H_hid := hI_ hid
 have H_hj := hI_ hj
 have H_hjd := hI_ hjd
 have H_hij := hI_ hij
 have H_hm := hI_ hm
 clear hi hid hj hjd hij hm hM T hB hop
 go_enter func55, ntmps55
 go_upto_region 2 with (refine eSt e HN0 ?_; intro w1 hv1 hu1)
 have hb1 := hu1.bel HB0.out (by omega)
 have HM_1 : Hid (MD w1 B F M) := HH.out.1.step hb1
 have HT_1 : Hid (TBL w1) := HH.out.2.step hb1
 have BB_1 := hI_ hb1
 have HE_1 := hI_ (HE0.out.upd hu1 (by omega))
 have HN_1 := hI_ hv1
 have y := eY 9 HE_1 HOP
 clear hb1 hv1 hu1 HN0 HE0 HB0 HH y0 y1 y2 y3 y4 y5 y6 y7
 go_upto_region 21 with fail
 clear y
 refine wp_region_noPanic ?_
 refine wp_region_held_drew (S := fun V => VA V (w.heap.size + 1) [.int .i64 e.n0, .int .i64 e.n1, .int .i64 e.n2, .int .i64 e.n3, .int .i64 e.n4, .int .i64 e.n5, .int .i64 e.n6, .int .i64 e.n7] 28) (by kernel_rfl) (HN_1.out.drew) ?_
 intro hh_
 have bz := (Below.refl w1.heap.size w1).drew
 have HM_z := hI_ (HM_1.out.step bz)
 have HT_z := hI_ (HT_1.out.step bz)
 have HN_z := hI_ (HN_1.out.step bz)
 have BB_z := hI_ (BB_1.out.trans (bz.mono BB_1.out.size))
 generalize w1.drew = wz at *
 clear bz
 refine tL 0 98 (.pointer (some ⟨F.pm, 0, none⟩)) ?_ ?_
 ·intro wq hS
  go_simp
 try simp only [nrm]
 refine tL 1 99 (.pointer (some ⟨F.pm, 0, none⟩)) ?_ ?_
 ·intro wq hS
  go_simp
 try simp only [nrm]
 refine tL 2 100 (.pointer (some ⟨w.heap.size + 1, 0, none⟩)) ?_ ?_
 ·intro wq hS
  go_simp
 try simp only [nrm]
 refine tL 3 101 (.int .i64 e.n0) ?_ ?_
 ·intro wq hS
  have c := VA.cell hS 0 (v := .int .i64 e.n0) rfl
  go_simp
 try simp only [nrm]
 refine tL 5 103 (.pointer (some ⟨F.pm, 0, none⟩)) ?_ ?_
 ·intro wq hS
  go_simp
 try simp only [nrm]
 refine tL 6 104 (.pointer (some ⟨w.heap.size + 1, 1, none⟩)) ?_ ?_
 ·intro wq hS
  go_simp
 try simp only [nrm]
 refine tL 7 105 (.int .i64 e.n1) ?_ ?_
 ·intro wq hS
  have c := VA.cell hS 1 (v := .int .i64 e.n1) rfl
  go_simp
 try simp only [nrm]
 refine tL 9 107 (.pointer (some ⟨w.heap.size + 1, 2, none⟩)) ?_ ?_
 ·intro wq hS
  go_simp
 try simp only [nrm]
 refine tL 10 108 (.int .i64 e.n2) ?_ ?_
 ·intro wq hS
  have c := VA.cell hS 2 (v := .int .i64 e.n2) rfl
  go_simp
 try simp only [nrm]
 clear hh_
 refine rdy 4 (fun K hK => ?_)
 go_simp
 refine Calls.mono (bn wz B F M HM_z.out H_hi.out H_hid.out) ?_
 rintro e wq ⟨rfl, hwq⟩
 obtain rfl := hwq.symm
 clear hwq
 go_wp2_with fail
 refine hK.out _ _ (HN_z.out) (fun hh_ => ?_)
 try simp only [nrm]
 clear hK K hh_
 refine rdy 8 (fun K hK => ?_)
 go_simp
 refine Calls.mono (bn wz B F M HM_z.out H_hj.out H_hjd.out) ?_
 rintro e wq ⟨rfl, hwq⟩
 obtain rfl := hwq.symm
 clear hwq
 go_wp2_with fail
 refine hK.out _ _ (HN_z.out) (fun hh_ => ?_)
 try simp only [nrm]
 clear hK K hh_
 refine rdy 11 (fun K hK => ?_)
 go_simp
 refine (kK wz B F M HM_z.out HT_z.out HQ.out.1 i j a b x y H_hi.out H_hj.out H_hij.out e.n2 (by omega) (by omega) v1 v2 u1 u2 H_hm.out).mono ?_
 rintro r w4 ⟨rfl, h1, h2⟩
 have HM_4 : Hid (MD w4 B F _) := h1
 have HN_4 : Hid (VA w4 (w.heap.size + 1) [.int .i64 e.n0, .int .i64 e.n1, .int .i64 e.n2, .int .i64 e.n3, .int .i64 e.n4, .int .i64 e.n5, .int .i64 e.n6, .int .i64 e.n7] 28) := HN_z.out.but h2 (fun hj => by have := HQ.out.2 _ (gj H_hi.out.x H_hj.out.x hj); omega)
 have HB_4 : Hid (But F.core w w4) := (ac BB_z.out F.core).trans h2 (fun j _ hj => gj H_hi.out.x H_hj.out.x hj)
 clear h1 h2
 go_wp2_with fail
 refine hK.out _ _ HN_4.out (fun hh_ => ?_)
 try simp only [nrm]
 clear hK K hh_
 refine dN ?_
 go_wp2_with fail
 exact bodyPost_end (v := .tuple #[]) (by simp [results, results55, go_sem]) rfl ⟨rfl, HM_4.out, HB_4.out⟩
theorem nP (w : World) (B : Nat) (F : FB) (M : PM) (hM : MD w B F M) (T : TBL w) (hB : 6 ≤ B) (e : EV) (tv : Value) (hop : e.op = 10) (i : Nat) (a : PA) (x : Nat × Nat) (hi : IsA F M i a x) (hid : a.id = e.n0) (j : Nat) (b : PA) (y : Nat × Nat) (hj : IsA F M j b y) (hjd : b.id = e.n1) (hij : i ≠ j) (n1 : 1 ≤ e.n2) (n2 : e.n2 ≤ 10000000000000) (v1 : -10000000000000 ≤ a.bal + -e.n2) (v2 : a.bal + -e.n2 ≤ 10000000000000) (u1 : -10000000000000 ≤ b.bal + -e.n2) (u2 : b.bal + -e.n2 ≤ 10000000000000) (hm : 0 ≤ M.n ∧ M.n ≤ 4611686018427387904) :
  Calls prog 55 #[.pointer (some ⟨F.pm, 0, none⟩), .agg (e.cells tv).toArray] w fun r w' => r = .returned (.tuple #[]) ∧ MD w' B F (twoM M i a (a.bal + -e.n2) j b (b.bal + -e.n2) 3 2 (-e.n2)) ∧ But F.core w w' := by
 obtain ⟨HE0, HB0, HN0, y0, y1, y2, y3, y4, y5, y6, y7⟩ := cr w e tv
 have HH : Hid (MD w B F M ∧ TBL w) := ⟨hM, T⟩
 have HQ : Hid (6 ≤ B ∧ ∀ j, F.core j → j < w.heap.size) := ⟨hB, fun j hj => hM.core_lt hj⟩
 have HOP : Hid (e.op = 10) := hop
 have H_hi := hI_ hi
 have H_hid := hI_ hid
 have H_hj := hI_ hj
 have H_hjd := hI_ hjd
 have H_hij := hI_ hij
 have H_hm := hI_ hm
 clear hi hid hj hjd hij hm hM T hB hop
 go_enter func55, ntmps55
 go_upto_region 2 with (refine eSt e HN0 ?_; intro w1 hv1 hu1)
 have hb1 := hu1.bel HB0.out (by omega)
 have HM_1 : Hid (MD w1 B F M) := HH.out.1.step hb1
 have HT_1 : Hid (TBL w1) := HH.out.2.step hb1
 have BB_1 := hI_ hb1
 have HE_1 := hI_ (HE0.out.upd hu1 (by omega))
 have HN_1 := hI_ hv1
 have y := eY 10 HE_1 HOP
 clear hb1 hv1 hu1 HN0 HE0 HB0 HH y0 y1 y2 y3 y4 y5 y6 y7
 go_upto_region 23 with fail
 clear y
 refine wp_region_noPanic ?_
 refine wp_region_held_drew (S := fun V => VA V (w.heap.size + 1) [.int .i64 e.n0, .int .i64 e.n1, .int .i64 e.n2, .int .i64 e.n3, .int .i64 e.n4, .int .i64 e.n5, .int .i64 e.n6, .int .i64 e.n7] 28) (by kernel_rfl) (HN_1.out.drew) ?_
 intro hh_
 have bz := (Below.refl w1.heap.size w1).drew
 have HM_z := hI_ (HM_1.out.step bz)
 have HT_z := hI_ (HT_1.out.step bz)
 have HN_z := hI_ (HN_1.out.step bz)
 have BB_z := hI_ (BB_1.out.trans (bz.mono BB_1.out.size))
 generalize w1.drew = wz at *
 clear bz
 refine tL 0 112 (.pointer (some ⟨F.pm, 0, none⟩)) ?_ ?_
 ·intro wq hS
  go_simp
 try simp only [nrm]
 refine tL 1 113 (.pointer (some ⟨F.pm, 0, none⟩)) ?_ ?_
 ·intro wq hS
  go_simp
 try simp only [nrm]
 refine tL 2 114 (.pointer (some ⟨w.heap.size + 1, 0, none⟩)) ?_ ?_
 ·intro wq hS
  go_simp
 try simp only [nrm]
 refine tL 3 115 (.int .i64 e.n0) ?_ ?_
 ·intro wq hS
  have c := VA.cell hS 0 (v := .int .i64 e.n0) rfl
  go_simp
 try simp only [nrm]
 refine tL 5 117 (.pointer (some ⟨F.pm, 0, none⟩)) ?_ ?_
 ·intro wq hS
  go_simp
 try simp only [nrm]
 refine tL 6 118 (.pointer (some ⟨w.heap.size + 1, 1, none⟩)) ?_ ?_
 ·intro wq hS
  go_simp
 try simp only [nrm]
 refine tL 7 119 (.int .i64 e.n1) ?_ ?_
 ·intro wq hS
  have c := VA.cell hS 1 (v := .int .i64 e.n1) rfl
  go_simp
 try simp only [nrm]
 refine tL 9 121 (.pointer (some ⟨w.heap.size + 1, 2, none⟩)) ?_ ?_
 ·intro wq hS
  go_simp
 try simp only [nrm]
 refine tL 10 122 (.int .i64 e.n2) ?_ ?_
 ·intro wq hS
  have c := VA.cell hS 2 (v := .int .i64 e.n2) rfl
  go_simp
 try simp only [nrm]
 refine tL 11 123 (.int .i64 (-e.n2)) ?_ ?_
 ·intro wq hS
  go_simp
  try (rw [IntKind.wrap_i64]; omega)
 try simp only [nrm]
 clear hh_
 refine rdy 4 (fun K hK => ?_)
 go_simp
 refine Calls.mono (bn wz B F M HM_z.out H_hi.out H_hid.out) ?_
 rintro e wq ⟨rfl, hwq⟩
 obtain rfl := hwq.symm
 clear hwq
 go_wp2_with fail
 refine hK.out _ _ (HN_z.out) (fun hh_ => ?_)
 try simp only [nrm]
 clear hK K hh_
 refine rdy 8 (fun K hK => ?_)
 go_simp
 refine Calls.mono (bn wz B F M HM_z.out H_hj.out H_hjd.out) ?_
 rintro e wq ⟨rfl, hwq⟩
 obtain rfl := hwq.symm
 clear hwq
 go_wp2_with fail
 refine hK.out _ _ (HN_z.out) (fun hh_ => ?_)
 try simp only [nrm]
 clear hK K hh_
 refine rdy 12 (fun K hK => ?_)
 go_simp
 refine (kK wz B F M HM_z.out HT_z.out HQ.out.1 i j a b x y H_hi.out H_hj.out H_hij.out (-e.n2) (by omega) (by omega) v1 v2 u1 u2 H_hm.out).mono ?_
 rintro r w4 ⟨rfl, h1, h2⟩
 have HM_4 : Hid (MD w4 B F _) := h1
 have HN_4 : Hid (VA w4 (w.heap.size + 1) [.int .i64 e.n0, .int .i64 e.n1, .int .i64 e.n2, .int .i64 e.n3, .int .i64 e.n4, .int .i64 e.n5, .int .i64 e.n6, .int .i64 e.n7] 28) := HN_z.out.but h2 (fun hj => by have := HQ.out.2 _ (gj H_hi.out.x H_hj.out.x hj); omega)
 have HB_4 : Hid (But F.core w w4) := (ac BB_z.out F.core).trans h2 (fun j _ hj => gj H_hi.out.x H_hj.out.x hj)
 clear h1 h2
 go_wp2_with fail
 refine hK.out _ _ HN_4.out (fun hh_ => ?_)
 try simp only [nrm]
 clear hK K hh_
 refine dN ?_
 go_wp2_with fail
 exact bodyPost_end (v := .tuple #[]) (by simp [results, results55, go_sem]) rfl ⟨rfl, HM_4.out, HB_4.out⟩
def FB.reach (w : World) (B : Nat) (F : FB) (j : Nat) : Prop := F.core j ∨ j = F.pc ∨ j = F.bm ∨ (B ≤ j ∧ ∃ cs fr, w.heap[j]? = some (Obj.cells cs 81 fr)) ∨ (B ≤ j ∧ ∃ cs fr, w.heap[j]? = some (Obj.cells cs 208 fr))
theorem mY {w : World} {k : TypeId} {b n : Nat} {f : Lit → Option Value} (h : MapF w k b n f) : ∃ es clock, w.heap[b]? = some (.map es clock) := by
 obtain ⟨D, ⟨es, clock, hb, _⟩, _⟩ := h
 exact ⟨es, clock, hb⟩
theorem MD.catO {w : World} {B : Nat} {F : FB} {M : PM} (h : MD w B F M) {svA : Value} (hA : VA w F.pc [.map (some F.bm), svA] 154) : (∃ es clock, w.heap[F.bm]? = some (.map es clock)) ∧ ∀ g, svA.ownBlock = some g → ∃ cs, w.heap[g]? = some (.cells cs 208 (0, 0)) := by
 obtain ⟨S, hC⟩ := h.cat
 obtain ⟨bm', sv', n, f, a1, a2, a3, a4, a5, a6, a7, a8⟩ := hC.mem
 have e := a1.blk.symm.trans hA.blk
 simp only [Option.some.injEq, Obj.cells.injEq, Array.mk.injEq, List.cons.injEq, Value.map.injEq] at e
 obtain rfl := e.1.1
 obtain rfl := e.1.2.1
 exact ⟨mY a4, fun g hg => a6.blkT hg⟩
theorem MD.catL {w : World} {B : Nat} {F : FB} {M : PM} (h : MD w B F M) {svA : Value} (hA : VA w F.pc [.map (some F.bm), svA] 154) : B ≤ F.pc ∧ B ≤ F.bm ∧ ∀ g, svA.ownBlock = some g → B ≤ g := by
 obtain ⟨S, hC⟩ := h.cat
 obtain ⟨bm', sv', n, f, a1, a2, a3, a4, a5, a6, a7, a8⟩ := hC.mem
 have e := a1.blk.symm.trans hA.blk
 simp only [Option.some.injEq, Obj.cells.injEq, Array.mk.injEq, List.cons.injEq, Value.map.injEq] at e
 obtain rfl := e.1.1
 obtain rfl := e.1.2.1
 exact ⟨a2, a3, fun g hg => a6.block g hg⟩
theorem MD.reach_low {w w1 : World} {B : Nat} {F : FB} {M : PM} (h : MD w B F M) {j : Nat} (hj : F.reach w1 B j) : B ≤ j := by
 obtain ⟨sv, hV⟩ := h.cbm
 rcases hj with hj | hj | hj | hj | hj
 ·exact h.core_low hj
 ·rw [hj]; exact (h.catL hV).1
 ·rw [hj]; exact (h.catL hV).2.1
 ·exact hj.1
 ·exact hj.1
theorem MD.addV {w w' : World} {B : Nat} {F : FB} {M : PM} {x : PV} {S' : Nat → Prop} {svA : Value} (h : MD w B F M) (hA : VA w F.pc [.map (some F.bm), svA] 154) (k : But (fun j => j = F.pc ∨ j = F.bm ∨ svA.ownBlock = some j) w w') (C : Cat w' F.pc B S' (M.vs ++ [x])) (V : ∃ sv', VA w' F.pc [.map (some F.bm), sv'] 154) (hx : addE M.vs x = 0) : MD w' B F { M with vs := M.vs ++ [x] } := by
 obtain ⟨hm, hO⟩ := h.catO hA
 have m := h.maps
 have nv : ∀ {p : Nat} {cs : List Value} {T : TypeId}, VA w p cs T → T ≠ 154 → T ≠ 208 → ¬ (p = F.pc ∨ p = F.bm ∨ svA.ownBlock = some p) := fun v h1 h2 e => by
  rcases e with e | e | e
  ·exact v.ne hA h1 e
  ·exact v.neM hm e
  ·obtain ⟨cs, e3⟩ := hO _ e
   have := v.blk.symm.trans e3
   simp only [Option.some.injEq, Obj.cells.injEq] at this
   exact h2 this.2.1
 have nm : ∀ {p : Nat}, (∃ es c, w.heap[p]? = some (Obj.map es c)) → p ≠ F.bm → ¬ (p = F.pc ∨ p = F.bm ∨ svA.ownBlock = some p) := fun hp hne e => by
  rcases e with e | e | e
  ·exact hA.neM hp e.symm
  ·exact hne e
  ·obtain ⟨cs, e3⟩ := hO _ e
   obtain ⟨es, c, e4⟩ := hp
   have := e3.symm.trans e4
   cases this
 refine ⟨h.va.but k (nv h.va (by decide) (by decide)), ⟨S', C⟩, V, h.led.but k (nv h.led.va (by decide) (by decide)) (nm (bO h.led.map) (fun e => m.1 e.symm)), h.rts.but k (nm h.rts.isMap (fun e => m.2.1 e.symm)), h.kys.but k (nm h.kys.isMap (fun e => m.2.2.1 e.symm)), h.row.but k (fun g hg hx => ?_), h.len, fun j a y ha hy => ?_, h.low, h.mps, h.abs, ⟨h.wf.day, h.wf.acs, h.wf.sort, h.wf.len, h.wf.rats, h.wf.seq, h.wf.run, fun i y hy => ?_⟩⟩
 ·obtain ⟨cs, e⟩ := h.row.blkT hg
  rcases hx with rfl | rfl | hx
  ·have := e.symm.trans hA.blk
   simp only [Option.some.injEq, Obj.cells.injEq] at this
   exact absurd this.2.1 (by decide)
  ·obtain ⟨es, c, e2⟩ := hm
   have := e.symm.trans e2
   cases this
  ·obtain ⟨cs2, e2⟩ := hO _ hx
   have := e.symm.trans e2
   simp only [Option.some.injEq, Obj.cells.injEq] at this
   exact absurd this.2.1 (by decide)
 ·have hb' := h.acs j a y ha hy
  exact ⟨hb'.1.but k (nv hb'.1 (by decide) (by decide)), hb'.2.but k (nm hb'.2.isMap (fun e => (h.maps_ne hy).1 e.symm))⟩
 ·show addE ((M.vs ++ [x]).take i) y = 0
  have hy : (M.vs ++ [x])[i]? = some y := hy
  rcases Nat.lt_or_ge i M.vs.length with hi | hi
  ·rw [List.getElem?_append_left hi] at hy
   rw [List.take_append_of_le_length (by omega)]
   exact h.wf.adds i y hy
  ·rw [List.getElem?_append_right hi] at hy
   obtain ⟨e1, e2⟩ : i = M.vs.length ∧ x = y := by
    cases hd : i - M.vs.length with
    | zero => rw [hd] at hy; simp at hy; exact ⟨by omega, hy⟩
    | succ n => rw [hd] at hy; simp at hy
   subst e1 e2
   rw [List.take_append_of_le_length (Nat.le_refl _), List.take_length]
   exact hx
theorem uT {vs : List PV} {x : PV} (h0 : addE vs x = 0) : chk x = 0 ∧ fol vs x = 0 ∧ vs.length < 64 := by
 have h1 : chk x = 0 := by
  by_cases e : chk x = 0
  ·exact e
  ·unfold addE at h0
   rw [if_pos e] at h0
   exact h0
 have h2 : fol vs x = 0 := by
  by_cases e : fol vs x = 0
  ·exact e
  ·unfold addE at h0
   rw [if_neg (fun h => h h1), if_pos e] at h0
   exact h0
 refine ⟨h1, h2, ?_⟩
 unfold addE at h0
 rw [if_neg (fun h => h h1), if_neg (fun h => h h2)] at h0
 by_cases e : 64 ≤ vs.length
 ·rw [if_pos e] at h0; cases h0
 ·omega
theorem tk (w : World) (B : Nat) (F : FB) (M : PM) (h : MD w B F M) (x : PV) (tv : Value) (hx : x.wf) (R : Tr w tv x.ts) (hno : ∀ n c, tv = .slice none n c → c = 0) (h0 : addE M.vs x = 0) :
  Calls prog 83 #[.pointer (some ⟨F.pc, 0, none⟩), .agg (x.cells tv).toArray] w fun e w' => e = .returned (.int .i64 0) ∧ MD w' B F { M with vs := M.vs ++ [x] } ∧ But (fun j => j = F.pc ∨ j = F.bm ∨ (B ≤ j ∧ ∃ cs fr, w.heap[j]? = some (Obj.cells cs 208 fr))) w w' := by
 obtain ⟨S, hC⟩ := h.cat
 obtain ⟨sv, hV⟩ := h.cbm
 obtain ⟨h1, h2, h3⟩ := uT h0
 refine (ph x tv w hC hV hx R hno h1 h2 h3).mono ?_
 rintro e w' ⟨rfl, C, b, _, V, k⟩
 refine ⟨rfl, h.addV hV k C V h0, k.mono (fun j hj => ?_)⟩
 rcases hj with hj | hj | hj
 ·exact Or.inl hj
 ·exact Or.inr (Or.inl hj)
 ·obtain ⟨cs, e⟩ := (h.catO hV).2 j hj
  exact Or.inr (Or.inr ⟨(h.catL hV).2.2 j hj, _, _, e⟩)
theorem pN (w : World) (B : Nat) (F : FB) (M : PM) (hM : MD w B F M) (T : TBL w) (hB : 6 ≤ B) (e : EV) (tv : Value) (hop : e.op = 1) (he : e.ok) (R : Tr w tv e.ts) (hno : ∀ n c, tv = .slice none n c → c = 0) (h0 : addE M.vs e.pv = 0) :
  Calls prog 55 #[.pointer (some ⟨F.pm, 0, none⟩), .agg (e.cells tv).toArray] w fun r w' => r = .returned (.tuple #[]) ∧ MD w' B F ({ M with vs := M.vs ++ [e.pv] }) ∧ But (F.reach w B) w w' := by
 obtain ⟨HE0, HB0, HN0, y0, y1, y2, y3, y4, y5, y6, y7⟩ := cr w e tv
 have HTF := eTF R
 have HSZ := (show Hid (∀ j, w.heap.size ≤ j → ¬ F.reach w B j) from fun j hj hr => by
  obtain ⟨sv, hV⟩ := hM.cbm
  rcases hr with hr | hr | hr | ⟨_, cs, fr, hr⟩ | ⟨_, cs, fr, hr⟩
  ·have := hM.core_lt hr; omega
  ·have := hV.lt; omega
  ·obtain ⟨es, c, e⟩ := (hM.catO hV).1
   have := (Array.getElem?_eq_some_iff.1 e).1
   omega
  ·have := (Array.getElem?_eq_some_iff.1 hr).1
   omega
  ·have := (Array.getElem?_eq_some_iff.1 hr).1
   omega)
 have HPC : Hid (∀ j, (j = F.pc ∨ j = F.bm) → F.reach w B j) := fun j hj => hj.elim (fun e => Or.inr (Or.inl e)) (fun e => Or.inr (Or.inr (Or.inl e)))
 have HH : Hid (MD w B F M ∧ TBL w) := ⟨hM, T⟩
 have HQ : Hid (6 ≤ B ∧ ∀ j, F.core j → j < w.heap.size) := ⟨hB, fun j hj => hM.core_lt hj⟩
 have HOP : Hid (e.op = 1) := hop
 have H_he := hI_ he
 have H_R := hI_ R
 have H_hno := hI_ hno
 have H_h0 := hI_ h0
 clear he R hno h0 hM T hB hop
 go_enter func55, ntmps55
 go_upto_region 2 with (refine eSt e HN0 ?_; intro w1 hv1 hu1)
 have hb1 := hu1.bel HB0.out (by omega)
 have HM_1 : Hid (MD w1 B F M) := HH.out.1.step hb1
 have HT_1 : Hid (TBL w1) := HH.out.2.step hb1
 have BB_1 := hI_ hb1
 have HE_1 := hI_ (HE0.out.upd hu1 (by omega))
 have HTR_1 : Hid (Tr w1 tv e.ts) := H_R.out.step hb1
 have HN_1 := hI_ hv1
 have y := eY 1 HE_1 HOP
 clear hb1 hv1 hu1 HN0 HE0 HB0 HH y0 y1 y2 y3 y4 y5 y6 y7
 go_upto_region 4 with fail
 clear y
 refine wp_region_noPanic ?_
 refine wp_region_held_drew (S := fun V => (∃ cs : List Value, VA V (w.heap.size + 1) cs 28) ∧ VA V w.heap.size (e.cells tv) 31 ∧ VA V F.pm (mcells F M) 100) (by kernel_rfl) (⟨⟨_, HN_1.out.drew⟩, HE_1.out.drew, HM_1.out.va.drew⟩) ?_
 intro hh_
 have bz := (Below.refl w1.heap.size w1).drew
 have HM_z := hI_ (HM_1.out.step bz)
 have HT_z := hI_ (HT_1.out.step bz)
 have HN_z := hI_ (HN_1.out.step bz)
 have HE_z := hI_ (HE_1.out.step bz)
 have HTR_z := hI_ (HTR_1.out.step bz)
 have BB_z := hI_ (BB_1.out.trans (bz.mono BB_1.out.size))
 generalize w1.drew = wz at *
 clear bz
 refine tL 0 12 (.pointer (some ⟨F.pm, 0, none⟩)) ?_ ?_
 ·intro wq hS
  go_simp
 try simp only [nrm]
 refine tL 1 13 (.pointer (some ⟨F.pm, 0, none⟩)) ?_ ?_
 ·intro wq hS
  go_simp
 try simp only [nrm]
 refine tL 2 14 (.pointer (some ⟨F.pm, 1, none⟩)) ?_ ?_
 ·intro wq hS
  go_simp
 try simp only [nrm]
 refine tL 3 15 (.pointer (some ⟨F.pc, 0, none⟩)) ?_ ?_
 ·intro wq hS
  have c := VA.cell hS.2.2 1 (v := .pointer (some ⟨F.pc, 0, none⟩)) rfl
  go_simp
 try simp only [nrm]
 refine tK 4 16 (.agg (e.cells tv).toArray) (by exact rfl) (yieldsIf_load_mid (by rfl) _ _ rfl _ _ rfl _ _ (fun wq hS => (fun j u hj => by rw [Nat.zero_add]; exact VA.cell hS.2.1 j hj)) underlying31 rfl aj) ?_
 try simp only [nrm]
 clear hh_
 refine rdy 5 (fun K hK => ?_)
 go_simp
 refine Calls.mono (fJ e tv wz HTF.out) ?_
 rintro e wu ⟨rfl, bu⟩
 have HM_u := hI_ (HM_z.out.step bu)
 have HT_u := hI_ (HT_z.out.step bu)
 have HN_u := hI_ (HN_z.out.step bu)
 have HE_u := hI_ (HE_z.out.step bu)
 have HTR_u := hI_ (HTR_z.out.step bu)
 have BB_u := hI_ (BB_z.out.trans (bu.mono BB_z.out.size))
 clear bu
 go_wp2_with fail
 refine hK.out _ _ (⟨⟨_, HN_u.out⟩, HE_u.out, HM_u.out.va⟩) (fun hh_ => ?_)
 try simp only [nrm]
 clear hK K hh_
 refine rdy 6 (fun K hK => ?_)
 go_simp
 refine Calls.mono (tk wu B F M HM_u.out e.pv tv (EV.pvwf H_he.out) HTR_u.out H_hno.out H_h0.out) ?_
 rintro r w4 ⟨rfl, h1, h2⟩
 have HM_4 : Hid (MD w4 B F _) := h1
 have hn : ∀ {p : Nat} {cs : List Value} {T : TypeId}, VA wu p cs T → T ≠ 154 → T ≠ 208 → ¬ (p = F.pc ∨ p = F.bm ∨ (B ≤ p ∧ ∃ cs fr, wu.heap[p]? = some (Obj.cells cs 208 fr))) := fun v n1 n2 hj => by
  obtain ⟨sv, hV⟩ := HM_u.out.cbm
  rcases hj with e | e | ⟨hBj, cs, fr, e⟩
  ·exact v.ne hV n1 e
  ·exact v.neM (HM_u.out.catO hV).1 e
  ·have := v.blk.symm.trans e
   simp only [Option.some.injEq, Obj.cells.injEq] at this
   exact n2 this.2.1
 have HN_4 := hI_ (HN_u.out.but h2 (hn HN_u.out (by decide) (by decide)))
 have HE_4 := hI_ (HE_u.out.but h2 (hn HE_u.out (by decide) (by decide)))
 have HB_4 : Hid (But (F.reach w B) w w4) := (ac BB_u.out (F.reach w B)).trans h2 (fun j hl hj => by
  rcases hj with e | e | ⟨hBj, cs, fr, e⟩
  ·exact HPC.out j (Or.inl e)
  ·exact HPC.out j (Or.inr e)
  ·exact Or.inr (Or.inr (Or.inr (Or.inr ⟨hBj, cs, fr, by rw [← BB_u.out.block j hl]; exact e⟩))))
 clear h1 h2 hn
 go_wp2_with fail
 refine hK.out _ _ ⟨⟨_, HN_4.out⟩, HE_4.out, HM_4.out.va⟩ (fun hh_ => ?_)
 try simp only [nrm]
 clear hK K hh_
 refine dN ?_
 go_wp2_with fail
 exact bodyPost_end (v := .tuple #[]) (by simp [results, results55, go_sem]) rfl ⟨rfl, HM_4.out, HB_4.out⟩
theorem i7 (w : World) (B : Nat) (v u : Value) (xs : List Nat) (y : Nat) (h : Own KP w B v xs) (hu : Sl KP w u [y]) (hno : ∀ n c, u = .slice none n c → c = 0) (hB : B ≤ w.heap.size) (hl : xs.length ≤ 256) :
    Calls prog 139 #[v, .int .i64 (xs.length : Int), u] w fun e w' => ∃ v', e = .returned v' ∧ Own KP w' B v' (xs ++ [y]) ∧ Below B w w' ∧ w.grownBy w' v.ownBlock := by
  obtain ⟨sa, sc, rfl, hc1, hc2⟩ := h.form
  obtain ⟨ua, uc, rfl, hd1, hd2, hd3⟩ := hu.form
  have HX := hI_ h
  have HU := hI_ hu
  have HNO := hI_ hno
  have HBB := hI_ hB
  have HLL := hI_ hl
  obtain ⟨n, hn⟩ : ∃ n, n = xs.length := ⟨_, rfl⟩
  have HN := hI_ hn
  rw [← hn] at hc1 hl ⊢
  clear h hu hno hB hn hd1 hd2 hd3
  have g1 : (n : Int) ≤ sc := by omega
  have g2 : (sc : Int) ≤ 9223372036854775807 := by omega
  have g3 : (n : Int) ≤ 256 := by omega
  go_enter func139, ntmps139
  go_wp2_with (at_builtin; refine yj (K := KP) rfl _ _ rfl B xs [y] (.slice sa n sc) (.slice ua 1 uc) (by rfl) (by rfl) (by rw [HN.out]; exact HX.out) HU.out HNO.out HBB.out (by have := HLL.out; show (xs.length + 1) * 8 ≤ _; omega) (by have := HLL.out; show xs.length + 1 ≤ _; omega) ?_; intro v1 w1 o1 b1 q1)
  all_goals (refine bodyPost_ret (v := v1) (by simp [results, results139, go_sem]) rfl ⟨v1, rfl, o1, b1, ?_⟩)
  all_goals first
    | exact q1
    | (have e : sc = n := by assumption
       rw [e] at q1
       exact q1)
end Go.Proofs.YtjkiplndbcmmbaaGreatDoor
namespace Go.Proofs.YtjkiplndbcmmbaaGreatDoor
open Go.RowKit Go.Maps
def FB.more (F : FB) (v : Value) (p hb : Nat) : FB := { F with sv := v, ab := F.ab ++ [(p, hb)] }
theorem MD.maps_lt {w : World} {B : Nat} {F : FB} {M : PM} (h : MD w B F M) {j : Nat} (hj : j ∈ F.maps) : j < w.heap.size := by
 unfold FB.maps at hj
 simp only [List.mem_cons, List.mem_map] at hj
 rcases hj with rfl | rfl | rfl | rfl | ⟨x, hx, rfl⟩
 ·obtain ⟨sv, hV⟩ := h.cbm
  obtain ⟨es, c, e⟩ := (h.catO hV).1
  exact (Array.getElem?_eq_some_iff.1 e).1
 ·exact h.core_lt (Or.inr (Or.inr (Or.inl rfl)))
 ·exact h.rts.lt
 ·exact h.kys.lt
 ·exact h.core_lt (Or.inr (Or.inr (Or.inr (Or.inr (Or.inr ⟨x, hx, Or.inr rfl⟩)))))
theorem ie {l : List Nat} {n : Nat} (h : l.Nodup) (hn : n ∉ l) : (l ++ [n]).Nodup := by
 refine List.nodup_append.2 ⟨h, by simp, fun a ha b hb e => ?_⟩
 simp at hb
 subst hb
 subst e
 exact hn ha
theorem MD.addA {w w' : World} {B : Nat} {F : FB} {M : PM} {a : PA} {p hb : Nat} {v : Value} (h : MD w B F M) (k : But (fun j => j = F.pm ∨ F.sv.ownBlock = some j) w w') (hp : w.heap.size ≤ p) (hh : w.heap.size ≤ hb) (V : VA w' F.pm (mcells (F.more v p hb) M) 100) (R : Own KP w' B v ((F.ab ++ [(p, hb)]).map (·.1))) (W : VA w' p (a.cells hb) 85) (A : AM KI encI w' hb a.hs) (hw : a.wf) (hid : ∀ b ∈ M.al, b.id < a.id) (hl : M.al.length < 256) : MD w' B (F.more v p hb) { M with al := M.al ++ [a] } := by
 obtain ⟨S, hC⟩ := h.cat
 obtain ⟨sv, hV⟩ := h.cbm
 have hlt := h.lt
 have nv : ∀ {q : Nat} {cs : List Value} {T : TypeId}, VA w q cs T → T ≠ 100 → T ≠ 81 → ¬ (q = F.pm ∨ F.sv.ownBlock = some q) := fun u h1 h2 e => by
  rcases e with e | e
  ·exact u.ne h.va h1 e
  ·obtain ⟨cs, e3⟩ := h.row.blkT e
   have := u.blk.symm.trans e3
   simp only [Option.some.injEq, Obj.cells.injEq] at this
   exact h2 this.2.1
 have nm : ∀ {q : Nat}, (∃ es c, w.heap[q]? = some (Obj.map es c)) → ¬ (q = F.pm ∨ F.sv.ownBlock = some q) := fun hq e => by
  rcases e with e | e
  ·exact h.va.neM hq e.symm
  ·obtain ⟨cs, e3⟩ := h.row.blkT e
   obtain ⟨es, c, e4⟩ := hq
   have := e3.symm.trans e4
   cases this
 refine ⟨V, ⟨S, hC.butM hV k (fun j hj => ?_)⟩, ⟨sv, hV.but k (nv hV (by decide) (by decide))⟩, h.led.but k (nv h.led.va (by decide) (by decide)) (nm (bO h.led.map)), h.rts.but k (nm h.rts.isMap), h.kys.but k (nm h.kys.isMap), R, ?_, fun j b y hb' hy => ?_, ?_, ?_, ?_, ?_⟩
 ·rcases hj with rfl | hj
  ·exact NC.cells h.va (by decide) (by decide) (by decide)
  ·obtain ⟨cs, e3⟩ := h.row.blkT hj
   exact Or.inl ⟨_, _, _, e3, by decide, by decide, by decide⟩
 ·show (F.ab ++ [(p, hb)]).length = (M.al ++ [a]).length
  rw [List.length_append, List.length_append, h.len]
  rfl
 ·have hb' : (M.al ++ [a])[j]? = some b := hb'
  have hy : (F.ab ++ [(p, hb)])[j]? = some y := hy
  rcases Nat.lt_or_ge j M.al.length with hj | hj
  ·rw [List.getElem?_append_left hj] at hb'
   rw [List.getElem?_append_left (by rw [h.len]; exact hj)] at hy
   have o := h.acs j b y hb' hy
   exact ⟨o.1.but k (nv o.1 (by decide) (by decide)), o.2.but k (nm o.2.isMap)⟩
  ·rw [List.getElem?_append_right hj] at hb'
   rw [List.getElem?_append_right (by rw [h.len]; exact hj), h.len] at hy
   cases hd : j - M.al.length with
   | zero =>
    rw [hd] at hb' hy
    simp at hb' hy
    subst hb' hy
    exact ⟨W, A⟩
   | succ n => rw [hd] at hb'; simp at hb'
 ·obtain ⟨l1, l2, l3, l4, l5, l6⟩ := h.low
  refine ⟨l1, l2, l3, l4, l5, fun x hx => ?_⟩
  rcases List.mem_append.1 hx with hx | hx
  ·exact l6 x hx
  ·simp at hx
   subst hx
   exact ⟨by show B ≤ p; omega, by show B ≤ hb; omega⟩
 ·have e : (F.more v p hb).maps = F.maps ++ [hb] := by
   unfold FB.maps FB.more
   simp
  rw [e]
  exact ie h.mps (fun hm => by have := h.maps_lt hm; omega)
 ·have e : (F.more v p hb).ab.map (·.1) = F.ab.map (·.1) ++ [p] := by
   unfold FB.more
   simp
  rw [e]
  refine ie h.abs (fun hm => ?_)
  obtain ⟨x, hx, rfl⟩ := List.mem_map.1 hm
  have := h.core_lt (Or.inr (Or.inr (Or.inr (Or.inr (Or.inr ⟨x, hx, Or.inl rfl⟩)))))
  omega
 ·have hw0 := h.wf
  refine ⟨hw0.day, fun b hb' => ?_, ?_, ?_, hw0.rats, hw0.seq, hw0.run, hw0.adds⟩
  ·rcases List.mem_append.1 hb' with hb' | hb'
   ·exact hw0.acs b hb'
   ·simp at hb'
    subst hb'
    exact hw
  ·show (M.al ++ [a]).Pairwise _
   refine List.pairwise_append.2 ⟨hw0.sort, by simp, fun b hb' c hc => ?_⟩
   simp at hc
   subst hc
   exact hid b hb'
  ·show (M.al ++ [a]).length ≤ 256
   rw [List.length_append]
   simp
   omega
end Go.Proofs.YtjkiplndbcmmbaaGreatDoor
namespace Go.Proofs.YtjkiplndbcmmbaaGreatDoor
open Tryz
open Go.RowKit Go.Maps
def newA (M : PM) (id p : Int) : PA := ⟨id, p, (ver M p).cur, (ver M p).kind, true, 0, 0, 0, []⟩
theorem qE (w : World) (B : Nat) (F : FB) (M : PM) (h : MD w B F M) (id p : Int) (hi : I64 id) (hpl : plc M.al id = M.al.length) (hw : (newA M id p).wf) (hids : ∀ b ∈ M.al, b.id < id) (hl : M.al.length < 256) :
  Calls prog 85 #[.pointer (some ⟨F.pm, 0, none⟩), .int .i64 id, .int .i64 p] w fun e w' => ∃ v q hb, e = .returned (.tuple #[]) ∧ MD w' B (F.more v q hb) { M with al := M.al ++ [newA M id p] } ∧ But (fun j => j = F.pm ∨ F.sv.ownBlock = some j) w w' ∧ w.heap.size ≤ q ∧ w.heap.size ≤ hb := by
 obtain ⟨er, her⟩ : ∃ er : Int, er = if (verO M p).isSome then 0 else 7 := ⟨_, rfl⟩
 have HER : Hid (er = if (verO M p).isSome then 0 else 7) := her
 have HM_ : Hid (MD w B F M) := h
 have BB_ := hI_ (Below.refl w.heap.size w)
 have HPL := hI_ hpl
 have HWF := hI_ hw
 have HIDS := hI_ hids
 have HLL := hI_ hl
 clear h her hpl hw hids hl
 go_enter func85, ntmps85
 go_upto_region 0 with fail
 refine wp_region_noPanic ?_
 refine wp_region_held_drew (S := fun V => VA V F.pm (mcells F M) 100) (by kernel_rfl) (HM_.out.va.drew) ?_
 intro hh_
 have bz := (Below.refl w.heap.size w).drew
 have HM_z := hI_ (HM_.out.step bz)
 have BB_z := hI_ (BB_.out.trans (bz.mono BB_.out.size))
 generalize w.drew = wz at *
 clear bz
 refine tL 0 12 (.pointer (some ⟨F.pm, 0, none⟩)) ?_ ?_
 ·intro wq hS
  go_simp
 try simp only [nrm]
 refine tL 1 13 (.pointer (some ⟨F.pm, 0, none⟩)) ?_ ?_
 ·intro wq hS
  go_simp
 try simp only [nrm]
 refine tL 2 14 (.pointer (some ⟨F.pm, 1, none⟩)) ?_ ?_
 ·intro wq hS
  go_simp
 try simp only [nrm]
 refine tL 3 15 (.pointer (some ⟨F.pc, 0, none⟩)) ?_ ?_
 ·intro wq hS
  have c := VA.cell hS 1 (v := .pointer (some ⟨F.pc, 0, none⟩)) rfl
  go_simp
 try simp only [nrm]
 refine tL 4 16 (.int .i64 p) ?_ ?_
 ·intro wq hS
  go_simp
 try simp only [nrm]
 refine tL 5 17 (.pointer (some ⟨F.pm, 0, none⟩)) ?_ ?_
 ·intro wq hS
  go_simp
 try simp only [nrm]
 refine tL 6 18 (.pointer (some ⟨F.pm, 0, none⟩)) ?_ ?_
 ·intro wq hS
  go_simp
 try simp only [nrm]
 refine tL 7 19 (.pointer (some ⟨F.pm, 0, none⟩)) ?_ ?_
 ·intro wq hS
  go_simp
 try simp only [nrm]
 refine tL 8 20 (.int .i64 M.day) ?_ ?_
 ·intro wq hS
  have c := VA.cell hS 0 (v := .int .i64 M.day) rfl
  go_simp
 try simp only [nrm]
 clear hh_
 refine wpAnyH_ready (rs := [9, 13]) (by kernel_rfl) (by simp) ?_
 refine AllReadyH.cons (by exact rfl) (fun K hK => ?_) (AllReadyH.cons (by exact rfl) (fun K hK => ?_) AllReadyH.nil)
 ·go_simp
  refine Calls.mono (d8 wz B F M HM_z.out p) ?_
  rintro e wa ⟨⟨v, rfl, o1⟩, ba⟩
  have HM_a := hI_ (HM_z.out.step ba)
  have BB_a := hI_ (BB_z.out.trans (ba.mono BB_z.out.size))
  rw [← HER.out]
  have OF : Hid (∃ a n c, v = .slice a n c) := by obtain ⟨a, c, e, _⟩ := o1.tr.form; exact ⟨a, _, c, e⟩
  clear o1 ba
  go_wp2_with fail
  refine hK.out _ _ (HM_a.out.va) (fun hh_ => ?_)
  try simp only [nrm]
  clear hK K
  refine tL 10 11 (.tuple #[.agg ((ver M p).cells v).toArray, .int .i64 er]) ?_ ?_
  ·intro wq hS
   go_simp
  try simp only [nrm]
  refine tL 11 22 (.agg ((ver M p).cells v).toArray) ?_ ?_
  ·intro wq hS
   go_simp
  try simp only [nrm]
  refine tL 12 23 (.int .i64 er) ?_ ?_
  ·intro wq hS
   go_simp
  try simp only [nrm]
  clear hh_
  refine rdy 13 (fun K hK => ?_)
  go_simp
  have bb := (Below.refl wa.heap.size wa).alloc (Nat.le_refl _) (.cells #[.int .i64 0, .int .i64 0, .int .i64 0, .int .i64 0, .int .i64 0, .int .i64 0, .int .i64 0, .int .i64 0, .slice none 0 0] 162)
  have HM_b := hI_ (HM_a.out.step bb)
  have BB_b := hI_ (BB_a.out.trans (bb.mono BB_a.out.size))
  have HN_b := hI_ (aa wa ([.int .i64 0, .int .i64 0, .int .i64 0, .int .i64 0, .int .i64 0, .int .i64 0, .int .i64 0, .int .i64 0, .slice none 0 0] : List Value) 162)
  have QLqn : Hid (w.heap.size ≤ wa.heap.size) := BB_a.out.size
  refine hK.out _ _ (HM_b.out.va) (fun hh_ => ?_)
  try simp only [nrm]
  clear hK K bb
  generalize wa.alloc (.cells #[.int .i64 0, .int .i64 0, .int .i64 0, .int .i64 0, .int .i64 0, .int .i64 0, .int .i64 0, .int .i64 0, .slice none 0 0] 162) = wb at *
  generalize wa.heap.size = qn at *
  refine rdy 14 (fun K hK => ?_)
  refine dW (by rfl) rfl 162 _ _ rfl qn (by rfl) ([.int .i64 0, .int .i64 0, .int .i64 0, .int .i64 0, .int .i64 0, .int .i64 0, .int .i64 0, .int .i64 0, .slice none 0 0]) ((ver M p).cells v) (by rfl) 162 HN_b.out infoP rfl (bD _ OF.out) ?_
  intro wf vf uf
  have hfo : ∀ i, i = qn → Fo wb i := fun i hi => by rw [hi]; exact dU HN_b.out (by decide)
  have HM_2 : Hid (MD wf B F M) := HM_b.out.but uf.but hfo
  have HP_2 : Hid (VA wf qn ((ver M p).cells v) 162) := vf
  have BB_2 : Hid (Below w.heap.size w wf) := uf.bel BB_b.out QLqn.out
  refine hK.out _ _ HM_2.out.va (fun hh_ => ?_)
  clear hK K uf vf hfo
  try simp only [nrm]
  refine tL 15 7 (.int .i64 er) ?_ ?_
  ·intro wq hS
   go_simp
  try simp only [nrm]
  refine dN ?_
  clear hh_
  generalize wf = w2 at *
  have z2 := HP_2.out.cell 2 (v := .int .i64 (ver M p).cur) rfl
  have z1 := HP_2.out.cell 1 (v := .int .i64 (ver M p).kind) rfl
  have hmm := @run_makeMap prog
  go_upto_region 2 with fail
  clear z1 z2 hmm
  have b3 := ((Below.refl w2.heap.size w2).alloc (Nat.le_refl _) (.map #[] 0)).alloc (by simp) (.cells ((newA M id p).cells w2.heap.size).toArray 85)
  have HA_3 := hI_ ((gu KI encI w2).step ((Below.refl _ _).alloc (Nat.le_refl _) (.cells ((newA M id p).cells w2.heap.size).toArray 85)))
  have ha3 := aa (w2.alloc (.map #[] 0)) ((newA M id p).cells w2.heap.size) 85
  rw [World.size_alloc] at ha3
  have HN_3 := hI_ ha3
  have HM_3 := hI_ (HM_2.out.step b3)
  have BB_3 := hI_ (BB_2.out.trans (b3.mono BB_2.out.size))
  clear ha3 b3 HP_2
  have hsz := BB_2.out.size
  have hW : (w2.alloc (.map #[] 0)).alloc (.cells ((newA M id p).cells w2.heap.size).toArray 85) = (w2.alloc (.map #[] 0)).alloc (.cells #[.int .i64 id, .int .i64 p, .int .i64 (ver M p).cur, .int .i64 (ver M p).kind, .bool true, .int .i64 0, .int .i64 0, .int .i64 0, .map (some w2.heap.size)] 85) := rfl
  rw [hW] at HA_3 HN_3 HM_3 BB_3
  clear hW
  generalize (w2.alloc (.map #[] 0)).alloc (.cells #[.int .i64 id, .int .i64 p, .int .i64 (ver M p).cur, .int .i64 (ver M p).kind, .bool true, .int .i64 0, .int .i64 0, .int .i64 0, .map (some w2.heap.size)] 85) = w3 at *
  have HSV : Hid (∃ sa sc, F.sv = .slice sa M.al.length sc) := by obtain ⟨sa, sc, e, _⟩ := HM_3.out.form; exact ⟨sa, sc, e⟩
  go_wp2_with fail
  refine (fA w3 B F M HM_3.out id).mono ?_
  rintro e wq ⟨rfl, hwq⟩
  obtain rfl := hwq.symm
  clear hwq
  rw [HPL.out]
  have c2 := HM_3.out.va.cell 2 (v := F.sv) rfl
  go_wp2_with fail
  have b4 := (Below.refl w3.heap.size w3).alloc (Nat.le_refl _) (.cells #[.pointer (some ⟨w2.heap.size + 1, 0, none⟩)] 81)
  have HU_4 : Hid (Sl KP (w3.alloc (.cells #[.pointer (some ⟨w2.heap.size + 1, 0, none⟩)] 81)) (.slice (some ⟨w3.heap.size, 0, none⟩) 1 1) [w2.heap.size + 1]) := ip (K := KP) (xs := [w2.heap.size + 1]) (aa w3 (KP.cells [w2.heap.size + 1]) 81) (by show 1 ≤ _; decide)
  have HM_4 := hI_ (HM_3.out.step b4)
  have HA_4 := hI_ (HA_3.out.step b4)
  have HN_4 := hI_ (HN_3.out.step b4)
  have BB_4 := hI_ (BB_3.out.trans (b4.mono BB_3.out.size))
  have hlen : (F.ab.map (·.1)).length = M.al.length := by rw [List.length_map, HM_.out.len]
  clear b4 c2
  generalize w3.alloc (.cells #[.pointer (some ⟨w2.heap.size + 1, 0, none⟩)] 81) = w4 at *
  generalize w3.heap.size = us at *
  have HI := i7 w4 B F.sv (.slice (some ⟨us, 0, none⟩) 1 1) (F.ab.map (·.1)) (w2.heap.size + 1) HM_4.out.row HU_4.out (fun n c e => by cases e) HM_4.out.lt (by rw [hlen]; have := HLL.out; omega)
  rw [hlen] at HI
  refine HI.mono ?_
  rintro e w5 ⟨v5, rfl, o5, b5, g5⟩
  clear HI
  have k5 : Hid (But (fun j => F.sv.ownBlock = some j) w4 w5) := fc g5
  have ho : ∀ {q : Nat} {cs : List Value} {T : TypeId}, VA w4 q cs T → T ≠ 81 → ¬ (F.sv.ownBlock = some q) := fun u h2 e => by
   obtain ⟨cs, e3⟩ := HM_4.out.row.blkT e
   have := u.blk.symm.trans e3
   simp only [Option.some.injEq, Obj.cells.injEq] at this
   exact h2 this.2.1
  have V5 := hI_ (HM_4.out.va.but k5.out (ho HM_4.out.va (by decide)))
  have N5 := hI_ (HN_4.out.but k5.out (ho HN_4.out (by decide)))
  have A5 := (show Hid _ from HA_4.out.but k5.out (fun e => by
   obtain ⟨cs, e3⟩ := HM_4.out.row.blkT e
   obtain ⟨es, c, e4⟩ := HA_4.out.isMap
   have := e3.symm.trans e4
   cases this))
  obtain ⟨va, vc, rfl, _, _⟩ := o5.form
  have O5 := hI_ o5
  clear o5 b5 g5 ho
  generalize (F.ab.map (·.1) ++ [w2.heap.size + 1]).length = vn at *
  have c2 := V5.out.cell 2 (v := F.sv) rfl
  have f2 := V5.out.free 2
  have hbk := V5.out.blk
  go_wp2_with fail
  have U6 := au w5 F.pm 2 (.slice va vn vc)
  have V6 : VA (w5.setCell ⟨F.pm, 2, none⟩ (.slice va vn vc)) F.pm (mcells (F.more (.slice va vn vc) (w2.heap.size + 1) w2.heap.size) M) 100 := V5.out.set 2 (.slice va vn vc)
  have K6 : But (fun j => j = F.pm ∨ F.sv.ownBlock = some j) w (w5.setCell ⟨F.pm, 2, none⟩ (.slice va vn vc)) := ((ac BB_4.out _).trans k5.out (fun _ _ e => Or.inr e)).trans U6.but (fun _ _ e => Or.inl e)
  have hl1 : w.heap.size ≤ w2.heap.size + 1 := by omega
  refine bodyPost_end (v := .tuple #[]) (by simp [results, results85, go_sem]) rfl ⟨_, _, _, rfl, HM_.out.addA K6 hl1 hsz V6 ?_ (N5.out.upd U6 (N5.out.ne V5.out (by decide))) (A5.out.but U6.but (fun e => V5.out.neM A5.out.isMap e.symm)) HWF.out HIDS.out HLL.out, K6, hl1, hsz⟩
  rw [List.map_append]
  exact O5.out.but U6.but (fun g hg hx => by
   obtain ⟨cs, e⟩ := O5.out.blkT hg
   subst hx
   have := e.symm.trans V5.out.blk
   simp only [Option.some.injEq, Obj.cells.injEq] at this
   exact absurd this.2.1 (by decide))

 ·go_simp
  have ba := (Below.refl wz.heap.size wz).alloc (Nat.le_refl _) (.cells #[.int .i64 0, .int .i64 0, .int .i64 0, .int .i64 0, .int .i64 0, .int .i64 0, .int .i64 0, .int .i64 0, .slice none 0 0] 162)
  have HM_a := hI_ (HM_z.out.step ba)
  have BB_a := hI_ (BB_z.out.trans (ba.mono BB_z.out.size))
  have HN_a := hI_ (aa wz ([.int .i64 0, .int .i64 0, .int .i64 0, .int .i64 0, .int .i64 0, .int .i64 0, .int .i64 0, .int .i64 0, .slice none 0 0] : List Value) 162)
  have QLqn : Hid (w.heap.size ≤ wz.heap.size) := BB_z.out.size
  refine hK.out _ _ (HM_a.out.va) (fun hh_ => ?_)
  try simp only [nrm]
  clear hK K ba
  generalize wz.alloc (.cells #[.int .i64 0, .int .i64 0, .int .i64 0, .int .i64 0, .int .i64 0, .int .i64 0, .int .i64 0, .int .i64 0, .slice none 0 0] 162) = wa at *
  generalize wz.heap.size = qn at *
  clear hh_
  refine rdy 9 (fun K hK => ?_)
  go_simp
  refine Calls.mono (d8 wa B F M HM_a.out p) ?_
  rintro e wb ⟨⟨v, rfl, o1⟩, bb⟩
  have HM_b := hI_ (HM_a.out.step bb)
  have HN_b := hI_ (HN_a.out.step bb)
  have BB_b := hI_ (BB_a.out.trans (bb.mono BB_a.out.size))
  rw [← HER.out]
  have OF : Hid (∃ a n c, v = .slice a n c) := by obtain ⟨a, c, e, _⟩ := o1.tr.form; exact ⟨a, _, c, e⟩
  clear o1 bb
  go_wp2_with fail
  refine hK.out _ _ (HM_b.out.va) (fun hh_ => ?_)
  try simp only [nrm]
  clear hK K
  refine tL 10 11 (.tuple #[.agg ((ver M p).cells v).toArray, .int .i64 er]) ?_ ?_
  ·intro wq hS
   go_simp
  try simp only [nrm]
  refine tL 11 22 (.agg ((ver M p).cells v).toArray) ?_ ?_
  ·intro wq hS
   go_simp
  try simp only [nrm]
  refine tL 12 23 (.int .i64 er) ?_ ?_
  ·intro wq hS
   go_simp
  try simp only [nrm]
  refine rdy 14 (fun K hK => ?_)
  refine dW (by rfl) rfl 162 _ _ rfl qn (by rfl) ([.int .i64 0, .int .i64 0, .int .i64 0, .int .i64 0, .int .i64 0, .int .i64 0, .int .i64 0, .int .i64 0, .slice none 0 0]) ((ver M p).cells v) (by rfl) 162 HN_b.out infoP rfl (bD _ OF.out) ?_
  intro wf vf uf
  have hfo : ∀ i, i = qn → Fo wb i := fun i hi => by rw [hi]; exact dU HN_b.out (by decide)
  have HM_2 : Hid (MD wf B F M) := HM_b.out.but uf.but hfo
  have HP_2 : Hid (VA wf qn ((ver M p).cells v) 162) := vf
  have BB_2 : Hid (Below w.heap.size w wf) := uf.bel BB_b.out QLqn.out
  refine hK.out _ _ HM_2.out.va (fun hh_ => ?_)
  clear hK K uf vf hfo
  try simp only [nrm]
  refine tL 15 7 (.int .i64 er) ?_ ?_
  ·intro wq hS
   go_simp
  try simp only [nrm]
  refine dN ?_
  clear hh_
  generalize wf = w2 at *
  have z2 := HP_2.out.cell 2 (v := .int .i64 (ver M p).cur) rfl
  have z1 := HP_2.out.cell 1 (v := .int .i64 (ver M p).kind) rfl
  have hmm := @run_makeMap prog
  go_upto_region 2 with fail
  clear z1 z2 hmm
  have b3 := ((Below.refl w2.heap.size w2).alloc (Nat.le_refl _) (.map #[] 0)).alloc (by simp) (.cells ((newA M id p).cells w2.heap.size).toArray 85)
  have HA_3 := hI_ ((gu KI encI w2).step ((Below.refl _ _).alloc (Nat.le_refl _) (.cells ((newA M id p).cells w2.heap.size).toArray 85)))
  have ha3 := aa (w2.alloc (.map #[] 0)) ((newA M id p).cells w2.heap.size) 85
  rw [World.size_alloc] at ha3
  have HN_3 := hI_ ha3
  have HM_3 := hI_ (HM_2.out.step b3)
  have BB_3 := hI_ (BB_2.out.trans (b3.mono BB_2.out.size))
  clear ha3 b3 HP_2
  have hsz := BB_2.out.size
  have hW : (w2.alloc (.map #[] 0)).alloc (.cells ((newA M id p).cells w2.heap.size).toArray 85) = (w2.alloc (.map #[] 0)).alloc (.cells #[.int .i64 id, .int .i64 p, .int .i64 (ver M p).cur, .int .i64 (ver M p).kind, .bool true, .int .i64 0, .int .i64 0, .int .i64 0, .map (some w2.heap.size)] 85) := rfl
  rw [hW] at HA_3 HN_3 HM_3 BB_3
  clear hW
  generalize (w2.alloc (.map #[] 0)).alloc (.cells #[.int .i64 id, .int .i64 p, .int .i64 (ver M p).cur, .int .i64 (ver M p).kind, .bool true, .int .i64 0, .int .i64 0, .int .i64 0, .map (some w2.heap.size)] 85) = w3 at *
  have HSV : Hid (∃ sa sc, F.sv = .slice sa M.al.length sc) := by obtain ⟨sa, sc, e, _⟩ := HM_3.out.form; exact ⟨sa, sc, e⟩
  go_wp2_with fail
  refine (fA w3 B F M HM_3.out id).mono ?_
  rintro e wq ⟨rfl, hwq⟩
  obtain rfl := hwq.symm
  clear hwq
  rw [HPL.out]
  have c2 := HM_3.out.va.cell 2 (v := F.sv) rfl
  go_wp2_with fail
  have b4 := (Below.refl w3.heap.size w3).alloc (Nat.le_refl _) (.cells #[.pointer (some ⟨w2.heap.size + 1, 0, none⟩)] 81)
  have HU_4 : Hid (Sl KP (w3.alloc (.cells #[.pointer (some ⟨w2.heap.size + 1, 0, none⟩)] 81)) (.slice (some ⟨w3.heap.size, 0, none⟩) 1 1) [w2.heap.size + 1]) := ip (K := KP) (xs := [w2.heap.size + 1]) (aa w3 (KP.cells [w2.heap.size + 1]) 81) (by show 1 ≤ _; decide)
  have HM_4 := hI_ (HM_3.out.step b4)
  have HA_4 := hI_ (HA_3.out.step b4)
  have HN_4 := hI_ (HN_3.out.step b4)
  have BB_4 := hI_ (BB_3.out.trans (b4.mono BB_3.out.size))
  have hlen : (F.ab.map (·.1)).length = M.al.length := by rw [List.length_map, HM_.out.len]
  clear b4 c2
  generalize w3.alloc (.cells #[.pointer (some ⟨w2.heap.size + 1, 0, none⟩)] 81) = w4 at *
  generalize w3.heap.size = us at *
  have HI := i7 w4 B F.sv (.slice (some ⟨us, 0, none⟩) 1 1) (F.ab.map (·.1)) (w2.heap.size + 1) HM_4.out.row HU_4.out (fun n c e => by cases e) HM_4.out.lt (by rw [hlen]; have := HLL.out; omega)
  rw [hlen] at HI
  refine HI.mono ?_
  rintro e w5 ⟨v5, rfl, o5, b5, g5⟩
  clear HI
  have k5 : Hid (But (fun j => F.sv.ownBlock = some j) w4 w5) := fc g5
  have ho : ∀ {q : Nat} {cs : List Value} {T : TypeId}, VA w4 q cs T → T ≠ 81 → ¬ (F.sv.ownBlock = some q) := fun u h2 e => by
   obtain ⟨cs, e3⟩ := HM_4.out.row.blkT e
   have := u.blk.symm.trans e3
   simp only [Option.some.injEq, Obj.cells.injEq] at this
   exact h2 this.2.1
  have V5 := hI_ (HM_4.out.va.but k5.out (ho HM_4.out.va (by decide)))
  have N5 := hI_ (HN_4.out.but k5.out (ho HN_4.out (by decide)))
  have A5 := (show Hid _ from HA_4.out.but k5.out (fun e => by
   obtain ⟨cs, e3⟩ := HM_4.out.row.blkT e
   obtain ⟨es, c, e4⟩ := HA_4.out.isMap
   have := e3.symm.trans e4
   cases this))
  obtain ⟨va, vc, rfl, _, _⟩ := o5.form
  have O5 := hI_ o5
  clear o5 b5 g5 ho
  generalize (F.ab.map (·.1) ++ [w2.heap.size + 1]).length = vn at *
  have c2 := V5.out.cell 2 (v := F.sv) rfl
  have f2 := V5.out.free 2
  have hbk := V5.out.blk
  go_wp2_with fail
  have U6 := au w5 F.pm 2 (.slice va vn vc)
  have V6 : VA (w5.setCell ⟨F.pm, 2, none⟩ (.slice va vn vc)) F.pm (mcells (F.more (.slice va vn vc) (w2.heap.size + 1) w2.heap.size) M) 100 := V5.out.set 2 (.slice va vn vc)
  have K6 : But (fun j => j = F.pm ∨ F.sv.ownBlock = some j) w (w5.setCell ⟨F.pm, 2, none⟩ (.slice va vn vc)) := ((ac BB_4.out _).trans k5.out (fun _ _ e => Or.inr e)).trans U6.but (fun _ _ e => Or.inl e)
  have hl1 : w.heap.size ≤ w2.heap.size + 1 := by omega
  refine bodyPost_end (v := .tuple #[]) (by simp [results, results85, go_sem]) rfl ⟨_, _, _, rfl, HM_.out.addA K6 hl1 hsz V6 ?_ (N5.out.upd U6 (N5.out.ne V5.out (by decide))) (A5.out.but U6.but (fun e => V5.out.neM A5.out.isMap e.symm)) HWF.out HIDS.out HLL.out, K6, hl1, hsz⟩
  rw [List.map_append]
  exact O5.out.but U6.but (fun g hg hx => by
   obtain ⟨cs, e⟩ := O5.out.blkT hg
   subst hx
   have := e.symm.trans V5.out.blk
   simp only [Option.some.injEq, Obj.cells.injEq] at this
   exact absurd this.2.1 (by decide))

theorem pO (w : World) (B : Nat) (F : FB) (M : PM) (hM : MD w B F M) (T : TBL w) (hB : 6 ≤ B) (e : EV) (tv : Value) (hop : e.op = 2) (hi : I64 e.n0) (hpl : plc M.al e.n0 = M.al.length) (hw : (newA M e.n0 e.n1).wf) (hids : ∀ b ∈ M.al, b.id < e.n0) (hl : M.al.length < 256) :
  Calls prog 55 #[.pointer (some ⟨F.pm, 0, none⟩), .agg (e.cells tv).toArray] w fun r w' => ∃ v q hb, r = .returned (.tuple #[]) ∧ MD w' B (F.more v q hb) { M with al := M.al ++ [newA M e.n0 e.n1] } ∧ But (F.reach w B) w w' ∧ w.heap.size ≤ q ∧ w.heap.size ≤ hb := by
 obtain ⟨HE0, HB0, HN0, y0, y1, y2, y3, y4, y5, y6, y7⟩ := cr w e tv
 have HRW : Hid (∀ g, F.sv.ownBlock = some g → B ≤ g ∧ ∃ cs, w.heap[g]? = some (.cells cs 81 (0, 0))) := fun g hg => ⟨hM.row.block g hg, hM.row.blkT hg⟩
 have HH : Hid (MD w B F M ∧ TBL w) := ⟨hM, T⟩
 have HQ : Hid (6 ≤ B ∧ ∀ j, F.core j → j < w.heap.size) := ⟨hB, fun j hj => hM.core_lt hj⟩
 have HOP : Hid (e.op = 2) := hop
 have H_hi := hI_ hi
 have H_hpl := hI_ hpl
 have H_hw := hI_ hw
 have H_hids := hI_ hids
 have H_hl := hI_ hl
 clear hi hpl hw hids hl hM T hB hop
 go_enter func55, ntmps55
 go_upto_region 2 with (refine eSt e HN0 ?_; intro w1 hv1 hu1)
 have hb1 := hu1.bel HB0.out (by omega)
 have HM_1 : Hid (MD w1 B F M) := HH.out.1.step hb1
 have HT_1 : Hid (TBL w1) := HH.out.2.step hb1
 have BB_1 := hI_ hb1
 have HE_1 := hI_ (HE0.out.upd hu1 (by omega))
 have HN_1 := hI_ hv1
 have y := eY 2 HE_1 HOP
 clear hb1 hv1 hu1 HN0 HE0 HB0 HH y0 y1 y2 y3 y4 y5 y6 y7
 have m0 := HN_1.out.cell 0 (v := .int .i64 e.n0) rfl
 have m1 := HN_1.out.cell 1 (v := .int .i64 e.n1) rfl
 have hsz := BB_1.out.size
 go_wp2_with fail
 refine (qE w1 B F M HM_1.out e.n0 e.n1 H_hi.out H_hpl.out H_hw.out H_hids.out H_hl.out).mono ?_
 rintro r w4 ⟨v, q, hb, rfl, h1, h2, h3, h4⟩
 have HM_4 := hI_ h1
 have HB_4 : Hid (But (F.reach w B) w w4) := (ac BB_1.out (F.reach w B)).trans h2 (fun j hl hj => hj.elim (fun e => Or.inl (Or.inl e)) (fun e => Or.inr (Or.inr (Or.inr (Or.inl (by obtain ⟨eB, cs, e2⟩ := HRW.out j e; exact ⟨eB, _, _, e2⟩))))))
 have l3 : w.heap.size ≤ q := by omega
 have l4 : w.heap.size ≤ hb := by omega
 clear h1 h2 h3 h4 m0 m1 y
 go_wp2_with fail
 exact bodyPost_end (v := .tuple #[]) (by simp [results, results55, go_sem]) rfl ⟨v, q, hb, rfl, HM_4.out, HB_4.out, l3, l4⟩
def askL (M : PM) (l : Int) (e : EV) : Int :=
 if e.op = 1 then wth l (addE M.vs e.pv) else
 if e.op = 2 then openL M l e.n0 e.n1 else
 if e.op = 3 then whn (namedK M l e.n0 0) (emptyO (acctO M e.n0)) 15 else
 if e.op = 4 then whn (namedK M (whn l (beyond e.n1 10000000000000) 1) e.n0 1) (roomO (acctO M e.n0) e.n1) 4 else
 if e.op = 5 then whn (namedK M (whn l (beyond e.n1 10000000000000) 1) e.n0 1) (fundsO M (acctO M e.n0) e.n1) 13 else
 if e.op = 6 then transferL M l e.n0 e.n1 e.n2 else
 if e.op = 7 then holdL M l e.n0 e.n1 e.n2 else
 if e.op = 8 then freeL M l e.n0 e.n1 else
 if e.op = 9 then lendL M l e.n0 e.n1 e.n2 e.n3 else
 if e.op = 10 then repayL M l e.n0 e.n1 e.n2 else
 if e.op = 11 then rateL l e.n0 e.n1 e.n2 else exchL M l e.n0 e.n1 e.n2
theorem vd (w : World) (B : Nat) (F : FB) (M : PM) (hM : MD w B F M) (rp : Nat) (l : Int) (h : RO w rp F.pm l) (e : EV) (he : e.ok) (tv : Value) (R : Tr w tv e.ts) (hno : ∀ n c, tv = .slice none n c → c = 0) (T : TBL w) (hrp : 6 ≤ rp) (h1 : 1 ≤ e.op ∧ e.op ≤ 12) :
  Calls prog 74 #[.pointer (some ⟨rp, 0, none⟩), .agg (e.cells tv).toArray] w fun r w' => r = .returned (.tuple #[]) ∧ RO w' rp F.pm (askL M l e) ∧ But (fun i => i = rp) w w' := by
 have hc : e.op = 1 ∨ e.op = 2 ∨ e.op = 3 ∨ e.op = 4 ∨ e.op = 5 ∨ e.op = 6 ∨ e.op = 7 ∨ e.op = 8 ∨ e.op = 9 ∨ e.op = 10 ∨ e.op = 11 ∨ e.op = 12 := by omega
 unfold askL
 rcases hc with k | k | k | k | k | k | k | k | k | k | k | k
 ·rw [if_pos k]
  exact wY w B F M hM rp l h e he tv R hno T hrp k
 ·rw [if_neg (by omega), if_pos k]
  exact wZ w B F M hM rp l h e he tv R hno T hrp k
 ·rw [if_neg (by omega), if_neg (by omega), if_pos k]
  exact x6 w B F M hM rp l h e he tv R hno T hrp k
 ·rw [if_neg (by omega), if_neg (by omega), if_neg (by omega), if_pos k]
  exact x8 w B F M hM rp l h e he tv R hno T hrp k
 ·rw [if_neg (by omega), if_neg (by omega), if_neg (by omega), if_neg (by omega), if_pos k]
  exact x9 w B F M hM rp l h e he tv R hno T hrp k
 ·rw [if_neg (by omega), if_neg (by omega), if_neg (by omega), if_neg (by omega), if_neg (by omega), if_pos k]
  exact xc w B F M hM rp l h e he tv R hno T hrp k
 ·rw [if_neg (by omega), if_neg (by omega), if_neg (by omega), if_neg (by omega), if_neg (by omega), if_neg (by omega), if_pos k]
  exact xd w B F M hM rp l h e he tv R hno T hrp k
 ·rw [if_neg (by omega), if_neg (by omega), if_neg (by omega), if_neg (by omega), if_neg (by omega), if_neg (by omega), if_neg (by omega), if_pos k]
  exact xf w B F M hM rp l h e he tv R hno T hrp k
 ·rw [if_neg (by omega), if_neg (by omega), if_neg (by omega), if_neg (by omega), if_neg (by omega), if_neg (by omega), if_neg (by omega), if_neg (by omega), if_pos k]
  exact xg w B F M hM rp l h e he tv R hno T hrp k
 ·rw [if_neg (by omega), if_neg (by omega), if_neg (by omega), if_neg (by omega), if_neg (by omega), if_neg (by omega), if_neg (by omega), if_neg (by omega), if_neg (by omega), if_pos k]
  exact uY w B F M hM rp l h e he tv R hno T hrp k
 ·rw [if_neg (by omega), if_neg (by omega), if_neg (by omega), if_neg (by omega), if_neg (by omega), if_neg (by omega), if_neg (by omega), if_neg (by omega), if_neg (by omega), if_neg (by omega), if_pos k]
  exact uZ w B F M hM rp l h e he tv R hno T hrp k
 ·rw [if_neg (by omega), if_neg (by omega), if_neg (by omega), if_neg (by omega), if_neg (by omega), if_neg (by omega), if_neg (by omega), if_neg (by omega), if_neg (by omega), if_neg (by omega), if_neg (by omega)]
  exact vb w B F M hM rp l h e he tv R hno T hrp k
theorem wN {e : EV} (h : e.e8.form) : zeros e.e8 := h.zero
theorem cB (e : EV) (tv : Value) (w : World) (he : e.ok) (T : Tc w) (R : Tr w tv e.ts) (b : Int) (hb : (e.e8.form ∧ b = 0) ∨ (¬ e.e8.form ∧ b = 3)) :
  Calls prog 71 #[.agg #[.int .u8 (e.op : Int), .int .u64 (e.key : Int), .int .i64 e.n0, .int .i64 e.n1, .int .i64 e.n2, .int .i64 e.n3, .int .i64 e.n4, .int .i64 e.n5, .int .i64 e.n6, .int .i64 e.n7, tv]] w fun r w' => r = .returned (.int .i64 b) ∧ Below w.heap.size w w' := by
 rcases hb with ⟨h, rfl⟩ | ⟨h, rfl⟩
 ·exact kf e.e8 tv w (EV.ok8 he) T R h.lo h.hi h.tiers 0 (Or.inl ⟨wN h, rfl⟩)
 ·exact o8 e.e8 tv w (EV.ok8 he) T R h
def refL (M : PM) (e : EV) (f : Bool) : Int :=
 if f = false ∨ (e.op = 12 ∧ e.n3 ≠ 0) then 3 else
 if ofDay e.op = true then 1 else
 if usedK M e.key = true then 16 else
 if M.uw = true then 14 else askL M 0 e
theorem vO : (prog.info? 148).map (·.size) = some 2 := by kernel_rfl
theorem fh (w : World) (B : Nat) (F : FB) (M : PM) (hM : MD w B F M) (e : EV) (he : e.ok) (tv : Value) (R : Tr w tv e.ts) (hno : ∀ n c, tv = .slice none n c → c = 0) (T : TBL w) (f : Bool) (hform : f = true ↔ e.e8.form) :
  Calls prog 38 #[.pointer (some ⟨F.pm, 0, none⟩), .agg (e.cells tv).toArray] w fun r w' => r = .returned (.int .i64 (refL M e f)) ∧ Below w.heap.size w w' := by
 have V := aa w (e.cells tv) 31
 have y0 := V.cell 0 (v := .int .u8 (e.op : Int)) rfl
 have y1 := V.cell 1 (v := .int .u64 (e.key : Int)) rfl
 have y2 := V.cell 2 (v := .int .i64 e.n0) rfl
 have y3 := V.cell 3 (v := .int .i64 e.n1) rfl
 have y4 := V.cell 4 (v := .int .i64 e.n2) rfl
 have y5 := V.cell 5 (v := .int .i64 e.n3) rfl
 have y6 := V.cell 6 (v := .int .i64 e.n4) rfl
 have y7 := V.cell 7 (v := .int .i64 e.n5) rfl
 have y8 := V.cell 8 (v := .int .i64 e.n6) rfl
 have y9 := V.cell 9 (v := .int .i64 e.n7) rfl
 have y10 := V.cell 10 (v := tv) rfl
 have b0 := (Below.refl w.heap.size w).alloc (Nat.le_refl _) (.cells (e.cells tv).toArray 31)
 have BB_0 := hI_ b0
 have HM_0 : Hid (MD _ B F M) := hM.step b0
 have HE_0 := hI_ V
 have HTR_0 : Hid (Tr _ tv e.ts) := R.step b0
 have HT_0 : Hid (TBL _) := T.step b0
 have HQ : Hid (e.ok ∧ ∀ n c, tv = .slice none n c → c = 0) := ⟨he, hno⟩
 clear V b0 hM R T he hno
 unfold refL
 by_cases hf : e.e8.form
 ·by_cases h12 : e.op = 12 ∧ e.n3 ≠ 0
  ·rw [if_pos (Or.inr h12)]
   have e12 : ((e.op : Int) == 12) = true := by rw [h12.1]; rfl
   have e3 : (e.n3 != 0) = true := by simpa using h12.2
   clear h12
   go_enter func38, ntmps38
   go_wp2_with fail
   generalize hW : w.alloc (.cells (e.cells tv).toArray 31) = w0 at *
   clear hW
   refine (cB e tv w0 HQ.out.1 HT_0.out.tc HTR_0.out 0 (Or.inl ⟨hf, rfl⟩)).mono ?_
   rintro r w1 ⟨rfl, b1⟩
   have HM_1 : Hid (MD w1 B F M) := HM_0.out.step b1
   have HE_1 : Hid (VA w1 w.heap.size (e.cells tv) 31) := HE_0.out.step b1
   have HTR_1 : Hid (Tr w1 tv e.ts) := HTR_0.out.step b1
   have HT_1 : Hid (TBL w1) := HT_0.out.step b1
   have BB_1 := hI_ (BB_0.out.trans (b1.mono BB_0.out.size))
   clear b1 y0 y1 y2 y3 y4 y5 y6 y7 y8 y9 y10 HM_0 HE_0 HTR_0 HT_0 BB_0
   have z0 := HE_1.out.cell 0 (v := .int .u8 (e.op : Int)) rfl
   have z1 := HE_1.out.cell 1 (v := .int .u64 (e.key : Int)) rfl
   have z2 := HE_1.out.cell 2 (v := .int .i64 e.n0) rfl
   have z3 := HE_1.out.cell 3 (v := .int .i64 e.n1) rfl
   have z4 := HE_1.out.cell 4 (v := .int .i64 e.n2) rfl
   have z5 := HE_1.out.cell 5 (v := .int .i64 e.n3) rfl
   have z6 := HE_1.out.cell 6 (v := .int .i64 e.n4) rfl
   have z7 := HE_1.out.cell 7 (v := .int .i64 e.n5) rfl
   have z8 := HE_1.out.cell 8 (v := .int .i64 e.n6) rfl
   have z9 := HE_1.out.cell 9 (v := .int .i64 e.n7) rfl
   have z10 := HE_1.out.cell 10 (v := tv) rfl
   go_wp2_with fail
   go_ret
   exact ⟨rfl, BB_1.out⟩
  ·rw [if_neg (by rintro (h | h); rw [hform.2 hf] at h; cases h; exact h12 h)]
   have e123 : ((e.op : Int) == 12) = false ∨ ((e.op : Int) == 12) = true ∧ (e.n3 != 0) = false := by
    by_cases h : e.op = 12
    ·refine Or.inr ⟨by rw [h]; rfl, ?_⟩
     have : e.n3 = 0 := Decidable.byContradiction (fun h3 => h12 ⟨h, h3⟩)
     simpa using this
    ·exact Or.inl (by simpa using fun h2 : (e.op : Int) = 12 => h (by omega))
   have HOP0 : Hid (1 ≤ e.op ∧ e.op ≤ 15) := ⟨hf.lo, hf.hi⟩
   clear h12
   rcases e123 with e12 | ⟨e12, e3⟩
   all_goals (
    cases hd : ofDay e.op with
    | true =>
     rw [if_pos rfl]
     go_enter func38, ntmps38
     go_wp2_with fail
     generalize hW : w.alloc (.cells (e.cells tv).toArray 31) = w0 at *
     clear hW
     refine (cB e tv w0 HQ.out.1 HT_0.out.tc HTR_0.out 0 (Or.inl ⟨hf, rfl⟩)).mono ?_
     rintro r w1 ⟨rfl, b1⟩
     have HM_1 : Hid (MD w1 B F M) := HM_0.out.step b1
     have HE_1 : Hid (VA w1 w.heap.size (e.cells tv) 31) := HE_0.out.step b1
     have HTR_1 : Hid (Tr w1 tv e.ts) := HTR_0.out.step b1
     have HT_1 : Hid (TBL w1) := HT_0.out.step b1
     have BB_1 := hI_ (BB_0.out.trans (b1.mono BB_0.out.size))
     clear b1 y0 y1 y2 y3 y4 y5 y6 y7 y8 y9 y10 HM_0 HE_0 HTR_0 HT_0 BB_0
     have z0 := HE_1.out.cell 0 (v := .int .u8 (e.op : Int)) rfl
     have z1 := HE_1.out.cell 1 (v := .int .u64 (e.key : Int)) rfl
     have z2 := HE_1.out.cell 2 (v := .int .i64 e.n0) rfl
     have z3 := HE_1.out.cell 3 (v := .int .i64 e.n1) rfl
     have z4 := HE_1.out.cell 4 (v := .int .i64 e.n2) rfl
     have z5 := HE_1.out.cell 5 (v := .int .i64 e.n3) rfl
     have z6 := HE_1.out.cell 6 (v := .int .i64 e.n4) rfl
     have z7 := HE_1.out.cell 7 (v := .int .i64 e.n5) rfl
     have z8 := HE_1.out.cell 8 (v := .int .i64 e.n6) rfl
     have z9 := HE_1.out.cell 9 (v := .int .i64 e.n7) rfl
     have z10 := HE_1.out.cell 10 (v := tv) rfl
     go_wp2_with fail
     refine (dj e.op w1).mono ?_
     rintro r wq ⟨rfl, hwq⟩
     obtain rfl := hwq.symm
     clear hwq
     rw [hd]
     go_wp2_with fail
     go_ret
     exact ⟨rfl, BB_1.out⟩
    | false =>
     rw [if_neg (by simp)]
     have HOP : Hid (1 ≤ e.op ∧ e.op ≤ 12) := (show 1 ≤ e.op ∧ e.op ≤ 12 from by have h1 := HOP0.out; have h2 : ¬ (e.op = 13 ∨ e.op = 14 ∨ e.op = 15) := of_decide_eq_false hd; omega)
     cases hu : usedK M e.key with
     | true =>
      rw [if_pos rfl]
      go_enter func38, ntmps38
      go_wp2_with fail
      generalize hW : w.alloc (.cells (e.cells tv).toArray 31) = w0 at *
      clear hW
      refine (cB e tv w0 HQ.out.1 HT_0.out.tc HTR_0.out 0 (Or.inl ⟨hf, rfl⟩)).mono ?_
      rintro r w1 ⟨rfl, b1⟩
      have HM_1 : Hid (MD w1 B F M) := HM_0.out.step b1
      have HE_1 : Hid (VA w1 w.heap.size (e.cells tv) 31) := HE_0.out.step b1
      have HTR_1 : Hid (Tr w1 tv e.ts) := HTR_0.out.step b1
      have HT_1 : Hid (TBL w1) := HT_0.out.step b1
      have BB_1 := hI_ (BB_0.out.trans (b1.mono BB_0.out.size))
      clear b1 y0 y1 y2 y3 y4 y5 y6 y7 y8 y9 y10 HM_0 HE_0 HTR_0 HT_0 BB_0
      have z0 := HE_1.out.cell 0 (v := .int .u8 (e.op : Int)) rfl
      have z1 := HE_1.out.cell 1 (v := .int .u64 (e.key : Int)) rfl
      have z2 := HE_1.out.cell 2 (v := .int .i64 e.n0) rfl
      have z3 := HE_1.out.cell 3 (v := .int .i64 e.n1) rfl
      have z4 := HE_1.out.cell 4 (v := .int .i64 e.n2) rfl
      have z5 := HE_1.out.cell 5 (v := .int .i64 e.n3) rfl
      have z6 := HE_1.out.cell 6 (v := .int .i64 e.n4) rfl
      have z7 := HE_1.out.cell 7 (v := .int .i64 e.n5) rfl
      have z8 := HE_1.out.cell 8 (v := .int .i64 e.n6) rfl
      have z9 := HE_1.out.cell 9 (v := .int .i64 e.n7) rfl
      have z10 := HE_1.out.cell 10 (v := tv) rfl
      go_wp2_with fail
      refine (dj e.op w1).mono ?_
      rintro r wq ⟨rfl, hwq⟩
      obtain rfl := hwq.symm
      clear hwq
      rw [hd]
      go_wp2_with fail
      refine (jS w1 B F M HM_1.out e.key HQ.out.1.key).mono ?_
      rintro r w2 ⟨rfl, b2⟩
      rw [hu]
      have HM_2 : Hid (MD w2 B F M) := HM_1.out.step b2
      have HE_2 : Hid (VA w2 w.heap.size (e.cells tv) 31) := HE_1.out.step b2
      have HTR_2 : Hid (Tr w2 tv e.ts) := HTR_1.out.step b2
      have HT_2 : Hid (TBL w2) := HT_1.out.step b2
      have BB_2 := hI_ (BB_1.out.trans (b2.mono BB_1.out.size))
      clear b2 z0 z1 z2 z3 z4 z5 z6 z7 z8 z9 z10 HM_1 HE_1 HTR_1 HT_1 BB_1
      have z0 := HE_2.out.cell 0 (v := .int .u8 (e.op : Int)) rfl
      have z1 := HE_2.out.cell 1 (v := .int .u64 (e.key : Int)) rfl
      have z2 := HE_2.out.cell 2 (v := .int .i64 e.n0) rfl
      have z3 := HE_2.out.cell 3 (v := .int .i64 e.n1) rfl
      have z4 := HE_2.out.cell 4 (v := .int .i64 e.n2) rfl
      have z5 := HE_2.out.cell 5 (v := .int .i64 e.n3) rfl
      have z6 := HE_2.out.cell 6 (v := .int .i64 e.n4) rfl
      have z7 := HE_2.out.cell 7 (v := .int .i64 e.n5) rfl
      have z8 := HE_2.out.cell 8 (v := .int .i64 e.n6) rfl
      have z9 := HE_2.out.cell 9 (v := .int .i64 e.n7) rfl
      have z10 := HE_2.out.cell 10 (v := tv) rfl
      have c6 := HM_2.out.va.cell 6 (v := .bool M.uw) rfl
      go_wp2_with fail
      go_ret
      exact ⟨rfl, BB_2.out⟩
     | false =>
      rw [if_neg (by simp)]
      cases hw : M.uw with
      | true =>
       rw [if_pos rfl]
       go_enter func38, ntmps38
       go_wp2_with fail
       generalize hW : w.alloc (.cells (e.cells tv).toArray 31) = w0 at *
       clear hW
       refine (cB e tv w0 HQ.out.1 HT_0.out.tc HTR_0.out 0 (Or.inl ⟨hf, rfl⟩)).mono ?_
       rintro r w1 ⟨rfl, b1⟩
       have HM_1 : Hid (MD w1 B F M) := HM_0.out.step b1
       have HE_1 : Hid (VA w1 w.heap.size (e.cells tv) 31) := HE_0.out.step b1
       have HTR_1 : Hid (Tr w1 tv e.ts) := HTR_0.out.step b1
       have HT_1 : Hid (TBL w1) := HT_0.out.step b1
       have BB_1 := hI_ (BB_0.out.trans (b1.mono BB_0.out.size))
       clear b1 y0 y1 y2 y3 y4 y5 y6 y7 y8 y9 y10 HM_0 HE_0 HTR_0 HT_0 BB_0
       have z0 := HE_1.out.cell 0 (v := .int .u8 (e.op : Int)) rfl
       have z1 := HE_1.out.cell 1 (v := .int .u64 (e.key : Int)) rfl
       have z2 := HE_1.out.cell 2 (v := .int .i64 e.n0) rfl
       have z3 := HE_1.out.cell 3 (v := .int .i64 e.n1) rfl
       have z4 := HE_1.out.cell 4 (v := .int .i64 e.n2) rfl
       have z5 := HE_1.out.cell 5 (v := .int .i64 e.n3) rfl
       have z6 := HE_1.out.cell 6 (v := .int .i64 e.n4) rfl
       have z7 := HE_1.out.cell 7 (v := .int .i64 e.n5) rfl
       have z8 := HE_1.out.cell 8 (v := .int .i64 e.n6) rfl
       have z9 := HE_1.out.cell 9 (v := .int .i64 e.n7) rfl
       have z10 := HE_1.out.cell 10 (v := tv) rfl
       go_wp2_with fail
       refine (dj e.op w1).mono ?_
       rintro r wq ⟨rfl, hwq⟩
       obtain rfl := hwq.symm
       clear hwq
       rw [hd]
       go_wp2_with fail
       refine (jS w1 B F M HM_1.out e.key HQ.out.1.key).mono ?_
       rintro r w2 ⟨rfl, b2⟩
       rw [hu]
       have HM_2 : Hid (MD w2 B F M) := HM_1.out.step b2
       have HE_2 : Hid (VA w2 w.heap.size (e.cells tv) 31) := HE_1.out.step b2
       have HTR_2 : Hid (Tr w2 tv e.ts) := HTR_1.out.step b2
       have HT_2 : Hid (TBL w2) := HT_1.out.step b2
       have BB_2 := hI_ (BB_1.out.trans (b2.mono BB_1.out.size))
       clear b2 z0 z1 z2 z3 z4 z5 z6 z7 z8 z9 z10 HM_1 HE_1 HTR_1 HT_1 BB_1
       have z0 := HE_2.out.cell 0 (v := .int .u8 (e.op : Int)) rfl
       have z1 := HE_2.out.cell 1 (v := .int .u64 (e.key : Int)) rfl
       have z2 := HE_2.out.cell 2 (v := .int .i64 e.n0) rfl
       have z3 := HE_2.out.cell 3 (v := .int .i64 e.n1) rfl
       have z4 := HE_2.out.cell 4 (v := .int .i64 e.n2) rfl
       have z5 := HE_2.out.cell 5 (v := .int .i64 e.n3) rfl
       have z6 := HE_2.out.cell 6 (v := .int .i64 e.n4) rfl
       have z7 := HE_2.out.cell 7 (v := .int .i64 e.n5) rfl
       have z8 := HE_2.out.cell 8 (v := .int .i64 e.n6) rfl
       have z9 := HE_2.out.cell 9 (v := .int .i64 e.n7) rfl
       have z10 := HE_2.out.cell 10 (v := tv) rfl
       have c6 := HM_2.out.va.cell 6 (v := .bool M.uw) rfl
       rw [hw] at c6
       go_wp2_with fail
       go_ret
       exact ⟨rfl, BB_2.out⟩
      | false =>
       rw [if_neg (by simp)]
       go_enter func38, ntmps38
       go_wp2_with fail
       generalize hW : w.alloc (.cells (e.cells tv).toArray 31) = w0 at *
       clear hW
       refine (cB e tv w0 HQ.out.1 HT_0.out.tc HTR_0.out 0 (Or.inl ⟨hf, rfl⟩)).mono ?_
       rintro r w1 ⟨rfl, b1⟩
       have HM_1 : Hid (MD w1 B F M) := HM_0.out.step b1
       have HE_1 : Hid (VA w1 w.heap.size (e.cells tv) 31) := HE_0.out.step b1
       have HTR_1 : Hid (Tr w1 tv e.ts) := HTR_0.out.step b1
       have HT_1 : Hid (TBL w1) := HT_0.out.step b1
       have BB_1 := hI_ (BB_0.out.trans (b1.mono BB_0.out.size))
       clear b1 y0 y1 y2 y3 y4 y5 y6 y7 y8 y9 y10 HM_0 HE_0 HTR_0 HT_0 BB_0
       have z0 := HE_1.out.cell 0 (v := .int .u8 (e.op : Int)) rfl
       have z1 := HE_1.out.cell 1 (v := .int .u64 (e.key : Int)) rfl
       have z2 := HE_1.out.cell 2 (v := .int .i64 e.n0) rfl
       have z3 := HE_1.out.cell 3 (v := .int .i64 e.n1) rfl
       have z4 := HE_1.out.cell 4 (v := .int .i64 e.n2) rfl
       have z5 := HE_1.out.cell 5 (v := .int .i64 e.n3) rfl
       have z6 := HE_1.out.cell 6 (v := .int .i64 e.n4) rfl
       have z7 := HE_1.out.cell 7 (v := .int .i64 e.n5) rfl
       have z8 := HE_1.out.cell 8 (v := .int .i64 e.n6) rfl
       have z9 := HE_1.out.cell 9 (v := .int .i64 e.n7) rfl
       have z10 := HE_1.out.cell 10 (v := tv) rfl
       go_wp2_with fail
       refine (dj e.op w1).mono ?_
       rintro r wq ⟨rfl, hwq⟩
       obtain rfl := hwq.symm
       clear hwq
       rw [hd]
       go_wp2_with fail
       refine (jS w1 B F M HM_1.out e.key HQ.out.1.key).mono ?_
       rintro r w2 ⟨rfl, b2⟩
       rw [hu]
       have HM_2 : Hid (MD w2 B F M) := HM_1.out.step b2
       have HE_2 : Hid (VA w2 w.heap.size (e.cells tv) 31) := HE_1.out.step b2
       have HTR_2 : Hid (Tr w2 tv e.ts) := HTR_1.out.step b2
       have HT_2 : Hid (TBL w2) := HT_1.out.step b2
       have BB_2 := hI_ (BB_1.out.trans (b2.mono BB_1.out.size))
       clear b2 z0 z1 z2 z3 z4 z5 z6 z7 z8 z9 z10 HM_1 HE_1 HTR_1 HT_1 BB_1
       have z0 := HE_2.out.cell 0 (v := .int .u8 (e.op : Int)) rfl
       have z1 := HE_2.out.cell 1 (v := .int .u64 (e.key : Int)) rfl
       have z2 := HE_2.out.cell 2 (v := .int .i64 e.n0) rfl
       have z3 := HE_2.out.cell 3 (v := .int .i64 e.n1) rfl
       have z4 := HE_2.out.cell 4 (v := .int .i64 e.n2) rfl
       have z5 := HE_2.out.cell 5 (v := .int .i64 e.n3) rfl
       have z6 := HE_2.out.cell 6 (v := .int .i64 e.n4) rfl
       have z7 := HE_2.out.cell 7 (v := .int .i64 e.n5) rfl
       have z8 := HE_2.out.cell 8 (v := .int .i64 e.n6) rfl
       have z9 := HE_2.out.cell 9 (v := .int .i64 e.n7) rfl
       have z10 := HE_2.out.cell 10 (v := tv) rfl
       have c6 := HM_2.out.va.cell 6 (v := .bool M.uw) rfl
       rw [hw] at c6
       have HV0 := hI_ (aa w2 ([.pointer none, .int .i64 0] : List Value) 148)
       have HBA := hI_ ((Below.refl w2.heap.size w2).alloc (Nat.le_refl _) (.cells #[.pointer none, .int .i64 0] 148))
       go_upto_region 12 with (refine stA rfl 148 _ _ rfl w2.heap.size (by rfl) ([.pointer none, .int .i64 0] : List Value) ([.pointer (some ⟨F.pm, 0, none⟩), .int .i64 0] : List Value) (by rfl) 148 HV0.out vO rfl (by intro v hv; simp at hv; rcases hv with rfl | rfl <;> rfl) ?_; intro w3 hv3 hu3)
       have b3 := hu3.bel HBA.out (Nat.le_refl _)
       have HM_3 : Hid (MD w3 B F M) := HM_2.out.step b3
       have HE_3 : Hid (VA w3 w.heap.size (e.cells tv) 31) := HE_2.out.step b3
       have HTR_3 : Hid (Tr w3 tv e.ts) := HTR_2.out.step b3
       have HT_3 : Hid (TBL w3) := HT_2.out.step b3
       have BB_3 := hI_ (BB_2.out.trans (b3.mono BB_2.out.size))
       have HR_3 : Hid (RO w3 w2.heap.size F.pm 0) := hv3
       have HSZ : Hid (6 ≤ w2.heap.size) := (show 6 ≤ w2.heap.size from by have := HT_2.out.lt; omega)
       have HLW : Hid (w.heap.size ≤ w2.heap.size) := BB_2.out.size
       clear b3 hv3 hu3 HV0 HBA c6 z0 z1 z2 z3 z4 z5 z6 z7 z8 z9 z10 HM_2 HE_2 HTR_2 HT_2 BB_2
       generalize w2.heap.size = rp at *
       have z0 := HE_3.out.cell 0 (v := .int .u8 (e.op : Int)) rfl
       have z1 := HE_3.out.cell 1 (v := .int .u64 (e.key : Int)) rfl
       have z2 := HE_3.out.cell 2 (v := .int .i64 e.n0) rfl
       have z3 := HE_3.out.cell 3 (v := .int .i64 e.n1) rfl
       have z4 := HE_3.out.cell 4 (v := .int .i64 e.n2) rfl
       have z5 := HE_3.out.cell 5 (v := .int .i64 e.n3) rfl
       have z6 := HE_3.out.cell 6 (v := .int .i64 e.n4) rfl
       have z7 := HE_3.out.cell 7 (v := .int .i64 e.n5) rfl
       have z8 := HE_3.out.cell 8 (v := .int .i64 e.n6) rfl
       have z9 := HE_3.out.cell 9 (v := .int .i64 e.n7) rfl
       have z10 := HE_3.out.cell 10 (v := tv) rfl
       go_wp2_with fail
       refine (vd w3 B F M HM_3.out rp 0 HR_3.out e HQ.out.1 tv HTR_3.out HQ.out.2 HT_3.out HSZ.out HOP.out).mono ?_
       rintro r w4 ⟨rfl, h1, h2⟩
       have HR_4 : Hid (RO w4 rp F.pm (askL M 0 e)) := h1
       have BB_4 : Hid (Below w.heap.size w w4) := BB_3.out.trans (h2.below (by have := BB_3.out.size; omega) (fun i hi => by have := HLW.out; omega))
       have c1 := VA.cell HR_4.out 1 (v := .int .i64 (askL M 0 e)) rfl
       clear h1 h2 z0 z1 z2 z3 z4 z5 z6 z7 z8 z9 z10
       go_wp2_with fail
       go_ret
       exact ⟨rfl, BB_4.out⟩)
 ·rw [if_pos (Or.inl (by cases f; rfl; exact absurd (hform.1 rfl) hf))]
  go_enter func38, ntmps38
  go_wp2_with fail
  generalize hW : w.alloc (.cells (e.cells tv).toArray 31) = w0 at *
  clear hW
  refine (cB e tv w0 HQ.out.1 HT_0.out.tc HTR_0.out 3 (Or.inr ⟨hf, rfl⟩)).mono ?_
  rintro r w1 ⟨rfl, b1⟩
  have HM_1 : Hid (MD w1 B F M) := HM_0.out.step b1
  have HE_1 : Hid (VA w1 w.heap.size (e.cells tv) 31) := HE_0.out.step b1
  have HTR_1 : Hid (Tr w1 tv e.ts) := HTR_0.out.step b1
  have HT_1 : Hid (TBL w1) := HT_0.out.step b1
  have BB_1 := hI_ (BB_0.out.trans (b1.mono BB_0.out.size))
  clear b1 y0 y1 y2 y3 y4 y5 y6 y7 y8 y9 y10 HM_0 HE_0 HTR_0 HT_0 BB_0
  have z0 := HE_1.out.cell 0 (v := .int .u8 (e.op : Int)) rfl
  have z1 := HE_1.out.cell 1 (v := .int .u64 (e.key : Int)) rfl
  have z2 := HE_1.out.cell 2 (v := .int .i64 e.n0) rfl
  have z3 := HE_1.out.cell 3 (v := .int .i64 e.n1) rfl
  have z4 := HE_1.out.cell 4 (v := .int .i64 e.n2) rfl
  have z5 := HE_1.out.cell 5 (v := .int .i64 e.n3) rfl
  have z6 := HE_1.out.cell 6 (v := .int .i64 e.n4) rfl
  have z7 := HE_1.out.cell 7 (v := .int .i64 e.n5) rfl
  have z8 := HE_1.out.cell 8 (v := .int .i64 e.n6) rfl
  have z9 := HE_1.out.cell 9 (v := .int .i64 e.n7) rfl
  have z10 := HE_1.out.cell 10 (v := tv) rfl
  go_wp2_with fail
  go_ret
  exact ⟨rfl, BB_1.out⟩
theorem wM : ∀ v ∈ ([.int .u8 0, .int .u64 0, .int .i64 0, .int .i64 0, .int .i64 0, .int .i64 0, .int .i64 0, .int .i64 0, .int .i64 0, .int .i64 0, .slice none 0 0] : List Value), v.oneCell' = true := by
 intro v hv
 simp at hv
 rcases hv with rfl | rfl | rfl | rfl <;> rfl
theorem tS (w : World) (B : Nat) (F : FB) (M : PM) (hM : MD w B F M) (e : EV) (he : e.ok) (tv : Value) (R : Tr w tv e.ts) (hno : ∀ n c, tv = .slice none n c → c = 0) (T : TBL w) (f : Bool) (hform : f = true ↔ e.e8.form) (hno2 : refL M e f ≠ 0) :
  Calls prog 19 #[.pointer (some ⟨F.pm, 0, none⟩), .agg (e.cells tv).toArray] w fun r w' => r = .returned (.tuple #[.agg ([.int .u8 0, .int .u64 0, .int .i64 0, .int .i64 0, .int .i64 0, .int .i64 0, .int .i64 0, .int .i64 0, .int .i64 0, .int .i64 0, .slice none 0 0] : List Value).toArray, .int .i64 0, .int .i64 (refL M e f)]) ∧ Below w.heap.size w w' := by
 obtain ⟨er, her⟩ : ∃ x, x = refL M e f := ⟨_, rfl⟩
 have e1 : (er != 0) = true := by rw [her]; simpa using hno2
 rw [← her]
 have HER : Hid (er = refL M e f) := her
 clear her hno2
 have b0 := (Below.refl w.heap.size w).alloc (Nat.le_refl _) (.cells (e.cells tv).toArray 31)
 have b1 := b0.alloc (by simp) (.cells #[.int .u8 0, .int .u64 0, .int .i64 0, .int .i64 0, .int .i64 0, .int .i64 0, .int .i64 0, .int .i64 0, .int .i64 0, .int .i64 0, .slice none 0 0] 31)
 have V0 := (aa w (e.cells tv) 31).alloc (.cells #[.int .u8 0, .int .u64 0, .int .i64 0, .int .i64 0, .int .i64 0, .int .i64 0, .int .i64 0, .int .i64 0, .int .i64 0, .int .i64 0, .slice none 0 0] 31)
 have hv1 := aa (w.alloc (.cells (e.cells tv).toArray 31)) ([.int .u8 0, .int .u64 0, .int .i64 0, .int .i64 0, .int .i64 0, .int .i64 0, .int .i64 0, .int .i64 0, .int .i64 0, .int .i64 0, .slice none 0 0] : List Value) 31
 rw [World.size_alloc] at hv1
 have BB_0 := hI_ b1
 have HM_0 : Hid (MD _ B F M) := hM.step b1
 have HE_0 := hI_ V0
 have HV_0 := hI_ hv1
 have HTR_0 : Hid (Tr _ tv e.ts) := R.step b1
 have HT_0 : Hid (TBL _) := T.step b1
 have HQ : Hid (e.ok ∧ (∀ n c, tv = .slice none n c → c = 0) ∧ (f = true ↔ e.e8.form)) := ⟨he, hno, hform⟩
 clear b0 b1 V0 hv1 hM R T he hno hform
 go_enter func19, ntmps19
 go_upto_region 1 with fail
 generalize hW : (w.alloc (.cells (e.cells tv).toArray 31)).alloc (.cells #[.int .u8 0, .int .u64 0, .int .i64 0, .int .i64 0, .int .i64 0, .int .i64 0, .int .i64 0, .int .i64 0, .int .i64 0, .int .i64 0, .slice none 0 0] 31) = w0 at *
 clear hW
 have y0 := HE_0.out.cell 0 (v := .int .u8 (e.op : Int)) rfl
 have y1 := HE_0.out.cell 1 (v := .int .u64 (e.key : Int)) rfl
 have y2 := HE_0.out.cell 2 (v := .int .i64 e.n0) rfl
 have y3 := HE_0.out.cell 3 (v := .int .i64 e.n1) rfl
 have y4 := HE_0.out.cell 4 (v := .int .i64 e.n2) rfl
 have y5 := HE_0.out.cell 5 (v := .int .i64 e.n3) rfl
 have y6 := HE_0.out.cell 6 (v := .int .i64 e.n4) rfl
 have y7 := HE_0.out.cell 7 (v := .int .i64 e.n5) rfl
 have y8 := HE_0.out.cell 8 (v := .int .i64 e.n6) rfl
 have y9 := HE_0.out.cell 9 (v := .int .i64 e.n7) rfl
 have y10 := HE_0.out.cell 10 (v := tv) rfl
 go_wp2_with fail
 refine (fh w0 B F M HM_0.out e HQ.out.1 tv HTR_0.out HQ.out.2.1 HT_0.out f HQ.out.2.2).mono ?_
 rintro r w1 ⟨rfl, b1⟩
 have HM_1 : Hid (MD w1 B F M) := HM_0.out.step b1
 have HE_1 : Hid (VA w1 w.heap.size (e.cells tv) 31) := HE_0.out.step b1
 have HV_1 : Hid (VA w1 (w.heap.size + 1) ([.int .u8 0, .int .u64 0, .int .i64 0, .int .i64 0, .int .i64 0, .int .i64 0, .int .i64 0, .int .i64 0, .int .i64 0, .int .i64 0, .slice none 0 0] : List Value) 31) := HV_0.out.step b1
 have HTR_1 : Hid (Tr w1 tv e.ts) := HTR_0.out.step b1
 have HT_1 : Hid (TBL w1) := HT_0.out.step b1
 have BB_1 := hI_ (BB_0.out.trans (b1.mono BB_0.out.size))
 clear b1 HM_0 HE_0 HV_0 HTR_0 HT_0 BB_0 y0 y1 y2 y3 y4 y5 y6 y7 y8 y9 y10
 rw [← HER.out]
 go_wp2_with (refine stA rfl 31 _ _ rfl (w.heap.size + 1) (by rfl) ([.int .u8 0, .int .u64 0, .int .i64 0, .int .i64 0, .int .i64 0, .int .i64 0, .int .i64 0, .int .i64 0, .int .i64 0, .int .i64 0, .slice none 0 0] : List Value) ([.int .u8 0, .int .u64 0, .int .i64 0, .int .i64 0, .int .i64 0, .int .i64 0, .int .i64 0, .int .i64 0, .int .i64 0, .int .i64 0, .slice none 0 0] : List Value) (by rfl) 31 HV_1.out aj rfl wM ?_; intro wf vf uf)
 have hld := run_loadVar_row (P := prog) wf (w.heap.size + 1) 31 31 _ (0, 0) _ vf.blk underlying31 rfl aj
 exact bodyPost_ret (v := .tuple #[.agg ([.int .u8 0, .int .u64 0, .int .i64 0, .int .i64 0, .int .i64 0, .int .i64 0, .int .i64 0, .int .i64 0, .int .i64 0, .int .i64 0, .slice none 0 0] : List Value).toArray, .int .i64 0, .int .i64 er]) (by simp [results, results19, asAddr, hld]) rfl ⟨rfl, uf.bel BB_1.out (by omega)⟩
theorem kQ (w : World) (B : Nat) (F : FB) (M : PM) (hM : MD w B F M) (e : EV) (he : e.ok) (tv : Value) (R : Tr w tv e.ts) (hno : ∀ n c, tv = .slice none n c → c = 0) (T : TBL w) (f : Bool) (hform : f = true ↔ e.e8.form) (hyes : refL M e f = 0) (h12 : e.op ≠ 12) (hlen : e.ts.length ≤ 8796093022208) :
  Calls prog 19 #[.pointer (some ⟨F.pm, 0, none⟩), .agg (e.cells tv).toArray] w fun r w' => (∃ u, r = .returned (.tuple #[.agg (e.cells u).toArray, .int .i64 e.mv, .int .i64 0]) ∧ OwnT w' w.heap.size u e.ts) ∧ Below w.heap.size w w' := by
 have e12 : ((e.op : Int) == 12) = false := by simpa using fun h2 : (e.op : Int) = 12 => h12 (by omega)
 have HLEN : Hid (e.ts.length ≤ 8796093022208) := hlen
 clear h12 hlen
 have b0 := (Below.refl w.heap.size w).alloc (Nat.le_refl _) (.cells (e.cells tv).toArray 31)
 have b1 := b0.alloc (by simp) (.cells #[.int .u8 0, .int .u64 0, .int .i64 0, .int .i64 0, .int .i64 0, .int .i64 0, .int .i64 0, .int .i64 0, .int .i64 0, .int .i64 0, .slice none 0 0] 31)
 have V0 := (aa w (e.cells tv) 31).alloc (.cells #[.int .u8 0, .int .u64 0, .int .i64 0, .int .i64 0, .int .i64 0, .int .i64 0, .int .i64 0, .int .i64 0, .int .i64 0, .int .i64 0, .slice none 0 0] 31)
 have hv1 := aa (w.alloc (.cells (e.cells tv).toArray 31)) ([.int .u8 0, .int .u64 0, .int .i64 0, .int .i64 0, .int .i64 0, .int .i64 0, .int .i64 0, .int .i64 0, .int .i64 0, .int .i64 0, .slice none 0 0] : List Value) 31
 rw [World.size_alloc] at hv1
 have BB_0 := hI_ b1
 have HM_0 : Hid (MD _ B F M) := hM.step b1
 have HE_0 := hI_ V0
 have HV_0 := hI_ hv1
 have HTR_0 : Hid (Tr _ tv e.ts) := R.step b1
 have HT_0 : Hid (TBL _) := T.step b1
 have HQ : Hid (e.ok ∧ (∀ n c, tv = .slice none n c → c = 0) ∧ (f = true ↔ e.e8.form)) := ⟨he, hno, hform⟩
 clear b0 b1 V0 hv1 hM R T he hno hform
 go_enter func19, ntmps19
 go_upto_region 1 with fail
 generalize hW : (w.alloc (.cells (e.cells tv).toArray 31)).alloc (.cells #[.int .u8 0, .int .u64 0, .int .i64 0, .int .i64 0, .int .i64 0, .int .i64 0, .int .i64 0, .int .i64 0, .int .i64 0, .int .i64 0, .slice none 0 0] 31) = w0 at *
 clear hW
 have y0 := HE_0.out.cell 0 (v := .int .u8 (e.op : Int)) rfl
 have y1 := HE_0.out.cell 1 (v := .int .u64 (e.key : Int)) rfl
 have y2 := HE_0.out.cell 2 (v := .int .i64 e.n0) rfl
 have y3 := HE_0.out.cell 3 (v := .int .i64 e.n1) rfl
 have y4 := HE_0.out.cell 4 (v := .int .i64 e.n2) rfl
 have y5 := HE_0.out.cell 5 (v := .int .i64 e.n3) rfl
 have y6 := HE_0.out.cell 6 (v := .int .i64 e.n4) rfl
 have y7 := HE_0.out.cell 7 (v := .int .i64 e.n5) rfl
 have y8 := HE_0.out.cell 8 (v := .int .i64 e.n6) rfl
 have y9 := HE_0.out.cell 9 (v := .int .i64 e.n7) rfl
 have y10 := HE_0.out.cell 10 (v := tv) rfl
 go_wp2_with fail
 refine (fh w0 B F M HM_0.out e HQ.out.1 tv HTR_0.out HQ.out.2.1 HT_0.out f HQ.out.2.2).mono ?_
 rintro r w1 ⟨rfl, b1⟩
 have HM_1 : Hid (MD w1 B F M) := HM_0.out.step b1
 have HE_1 : Hid (VA w1 w.heap.size (e.cells tv) 31) := HE_0.out.step b1
 have HV_1 : Hid (VA w1 (w.heap.size + 1) ([.int .u8 0, .int .u64 0, .int .i64 0, .int .i64 0, .int .i64 0, .int .i64 0, .int .i64 0, .int .i64 0, .int .i64 0, .int .i64 0, .slice none 0 0] : List Value) 31) := HV_0.out.step b1
 have HTR_1 : Hid (Tr w1 tv e.ts) := HTR_0.out.step b1
 have HT_1 : Hid (TBL w1) := HT_0.out.step b1
 have BB_1 := hI_ (BB_0.out.trans (b1.mono BB_0.out.size))
 clear b1 HM_0 HE_0 HV_0 HTR_0 HT_0 BB_0 y0 y1 y2 y3 y4 y5 y6 y7 y8 y9 y10
 rw [hyes]
 have c10 := HE_1.out.cell 10 (v := tv) rfl
 go_wp2_with fail
 refine (gL tv e.ts w1 HTR_1.out HQ.out.2.1 HLEN.out).mono ?_
 rintro r w2 ⟨⟨u, rfl, ou⟩, b2⟩
 obtain ⟨ua, un, uc, rfl⟩ := ou.form
 have OU_2 : Hid (OwnT w2 w.heap.size (.slice ua un uc) e.ts) := ou.lower BB_1.out.size
 clear ou c10
 have HM_2 : Hid (MD w2 B F M) := HM_1.out.step b2
 have HE_2 : Hid (VA w2 w.heap.size (e.cells tv) 31) := HE_1.out.step b2
 have HV_2 : Hid (VA w2 (w.heap.size + 1) ([.int .u8 0, .int .u64 0, .int .i64 0, .int .i64 0, .int .i64 0, .int .i64 0, .int .i64 0, .int .i64 0, .int .i64 0, .int .i64 0, .slice none 0 0] : List Value) 31) := HV_1.out.step b2
 have HTR_2 : Hid (Tr w2 tv e.ts) := HTR_1.out.step b2
 have HT_2 : Hid (TBL w2) := HT_1.out.step b2
 have BB_2 := hI_ (BB_1.out.trans (b2.mono BB_1.out.size))
 clear b2 HM_1 HE_1 HV_1 HTR_1 HT_1 BB_1
 have hUF : Hid (∃ a n c, Value.slice ua un uc = Value.slice a n c) := ⟨_, _, _, rfl⟩
 have f10 := HE_2.out.free 10
 have hbk := HE_2.out.blk
 have c10b := HE_2.out.cell 10 (v := tv) rfl
 have hset : VA (w2.setCell ⟨w.heap.size, 10, none⟩ (.slice ua un uc)) w.heap.size (e.cells (.slice ua un uc)) 31 := HE_2.out.set 10 (.slice ua un uc)
 have huq := au w2 w.heap.size 10 (.slice ua un uc)
 have HE_3 := hI_ hset
 have HV_3 : Hid (VA (w2.setCell ⟨w.heap.size, 10, none⟩ (.slice ua un uc)) (w.heap.size + 1) ([.int .u8 0, .int .u64 0, .int .i64 0, .int .i64 0, .int .i64 0, .int .i64 0, .int .i64 0, .int .i64 0, .int .i64 0, .int .i64 0, .slice none 0 0] : List Value) 31) := HV_2.out.upd huq (by omega)
 have BB_3 := hI_ (huq.bel BB_2.out (Nat.le_refl _))
 have OU_3 : Hid (OwnT (w2.setCell ⟨w.heap.size, 10, none⟩ (.slice ua un uc)) w.heap.size (.slice ua un uc) e.ts) := OwnT.updV OU_2.out HE_2.out (by decide) huq
 have z0 := HE_3.out.cell 0 (v := .int .u8 (e.op : Int)) rfl
 clear hset huq
 go_upto_region 7 with fail
 generalize hW3 : w2.setCell ⟨w.heap.size, 10, none⟩ (.slice ua un uc) = w3 at *
 clear hW3 f10 hbk c10b z0 HM_2 HE_2 HV_2 HTR_2 HT_2 BB_2 OU_2
 refine wp_region_noPanic ?_
 refine wp_region_held_drew (S := fun V => VA V w.heap.size (e.cells (.slice ua un uc)) 31) (by kernel_rfl) (VA.drew HE_3.out) ?_
 intro hh_
 have bz := (Below.refl w3.heap.size w3).drew
 have HE_z := hI_ (HE_3.out.step bz)
 have HV_z := hI_ (HV_3.out.step bz)
 have OU_z := hI_ (OU_3.out.step bz)
 have BB_z := hI_ (BB_3.out.trans (bz.mono BB_3.out.size))
 generalize w3.drew = wz at *
 clear bz
 refine tK 0 43 (.agg (e.cells (.slice ua un uc)).toArray) (by exact rfl) (yieldsIf_load_mid (by rfl) _ _ rfl _ _ rfl _ _ (fun wq hS => (fun j v hj => by rw [Nat.zero_add]; exact VA.cell hS j hj)) underlying31 rfl aj) ?_
 try simp only [nrm]
 refine tK 1 44 (.agg (e.cells (.slice ua un uc)).toArray) (by exact rfl) (yieldsIf_load_mid (by rfl) _ _ rfl _ _ rfl _ _ (fun wq hS => (fun j v hj => by rw [Nat.zero_add]; exact VA.cell hS j hj)) underlying31 rfl aj) ?_
 try simp only [nrm]
 clear hh_
 refine rdy 2 (fun K hK => ?_)
 go_simp
 refine Calls.mono (kL e (.slice ua un uc) wz) ?_
 rintro e wm ⟨rfl, bm⟩
 have HE_m := hI_ (HE_z.out.step bm)
 have HV_m := hI_ (HV_z.out.step bm)
 have OU_m := hI_ (OU_z.out.step bm)
 have BB_m := hI_ (BB_z.out.trans (bm.mono BB_z.out.size))
 clear bm
 go_wp2_with fail
 refine hK.out _ _ (HE_m.out) (fun hh_ => ?_)
 try simp only [nrm]
 clear hK K
 refine rdy 3 (fun K hK => ?_)
 refine dW (by rfl) rfl 31 _ _ rfl (w.heap.size + 1) (by rfl) ([.int .u8 0, .int .u64 0, .int .i64 0, .int .i64 0, .int .i64 0, .int .i64 0, .int .i64 0, .int .i64 0, .int .i64 0, .int .i64 0, .slice none 0 0] : List Value) (e.cells (.slice ua un uc)) (by rfl) 31 HV_m.out aj rfl (EV.one e hUF.out) ?_
 intro wf vf uf
 have BB_f := hI_ (uf.bel BB_m.out (by omega))
 have OU_f : Hid (OwnT wf w.heap.size (.slice ua un uc) e.ts) := OwnT.updV OU_m.out HV_m.out (by decide) uf
 refine hK.out _ _ (HE_m.out.upd uf (by omega)) (fun hh_2 => ?_)
 clear hK K hh_
 try simp only [nrm]
 refine tL 4 5 (.int .i64 e.mv) ?_ ?_
 ·intro wq hS
  go_simp
 try simp only [nrm]
 refine tL 5 6 (.int .i64 0) ?_ ?_
 ·intro wq hS
  go_simp
 try simp only [nrm]
 refine dN ?_
 clear hh_2
 go_wp2_with fail
 have hld := run_loadVar_row (P := prog) wf (w.heap.size + 1) 31 31 _ (0, 0) _ vf.blk underlying31 rfl aj
 exact bodyPost_ret (v := .tuple #[.agg (e.cells (.slice ua un uc)).toArray, .int .i64 e.mv, .int .i64 0]) (by simp [results, results19, asAddr, Act.put, hld]) rfl ⟨⟨(.slice ua un uc), rfl, OU_f.out⟩, BB_f.out⟩
theorem MD.reach_no {w w1 : World} {B : Nat} {F : FB} {M : PM} (h : MD w B F M) {p : Nat} {cs : List Value} {T : TypeId} (v : VA w1 p cs T) (hp : w.heap.size ≤ p) (h1 : T ≠ 208) (h2 : T ≠ 81) : ¬ F.reach w1 B p := fun hr => by
 obtain ⟨sv, hV⟩ := h.cbm
 rcases hr with hr | hr | hr | ⟨_, cs', fr, hr⟩ | ⟨_, cs', fr, hr⟩
 ·have := h.core_lt hr; omega
 ·have := hV.lt; omega
 ·obtain ⟨es, c, e⟩ := (h.catO hV).1
  have := (Array.getElem?_eq_some_iff.1 e).1
  omega
 ·have := v.blk.symm.trans hr
  simp only [Option.some.injEq, Obj.cells.injEq] at this
  exact h2 this.2.1
 ·have := v.blk.symm.trans hr
  simp only [Option.some.injEq, Obj.cells.injEq] at this
  exact h1 this.2.1
theorem FB.reach_back {w w1 : World} {B : Nat} {F : FB} {j : Nat} (b : Below w.heap.size w w1) (hl : j < w.heap.size) (h : F.reach w1 B j) : F.reach w B j := by
 rcases h with h | h | h | ⟨hB, cs, fr, h⟩ | ⟨hB, cs, fr, h⟩
 ·exact Or.inl h
 ·exact Or.inr (Or.inl h)
 ·exact Or.inr (Or.inr (Or.inl h))
 ·exact Or.inr (Or.inr (Or.inr (Or.inl ⟨hB, cs, fr, by rw [← b.block j hl]; exact h⟩)))
 ·exact Or.inr (Or.inr (Or.inr (Or.inr ⟨hB, cs, fr, by rw [← b.block j hl]; exact h⟩)))
theorem nJ (w : World) (B : Nat) (F : FB) (M M' : PM) (hM : MD w B F M) (e : EV) (he : e.ok) (tv : Value) (R : Tr w tv e.ts) (hno : ∀ n c, tv = .slice none n c → c = 0) (T : TBL w) (f : Bool) (hform : f = true ↔ e.e8.form) (hday : ofDay e.op = false) (h12 : e.op ≠ 12) (hyes : refL M e f = 0) (hlen : e.ts.length ≤ 8796093022208)
  (hch : ∀ w1, Below w.heap.size w w1 → Calls prog 55 #[.pointer (some ⟨F.pm, 0, none⟩), .agg (e.cells tv).toArray] w1 fun r w' => ∃ F', r = .returned (.tuple #[]) ∧ MD w' B F' M' ∧ F'.pm = F.pm ∧ F'.km = F.km ∧ But (F.reach w1 B) w1 w') (hkl : M'.keys.length < 1000000000000) (hs1 : 0 ≤ M'.seq) (hs2 : M'.seq < 1000000000000000) :
  Calls prog 29 #[.pointer (some ⟨F.pm, 0, none⟩), .agg (e.cells tv).toArray] w fun r w' => ∃ F', r = .returned (.int .i64 0) ∧ MD w' B F' { M' with keys := useL M'.keys e.key, seq := M'.seq + 1 } ∧ F'.pm = F.pm ∧ F'.km = F.km ∧ But (F.reach w B) w w' := by
 have HTF := eTF R
 have HP : Hid (∀ w1, Below w.heap.size w w1 → _) := fun w1 (b : Below w.heap.size w w1) => kQ w1 B F M (hM.step b) e he tv (R.step b) hno (T.step b) f hform hyes h12 hlen
 have HCH := hI_ hch
 have HR : Hid (∀ w1, Below w.heap.size w w1 → Tr w1 tv e.ts) := fun w1 b => R.step b
 have HW : Hid (MD w B F M) := hM
 have HOK : Hid (e.ok ∧ M'.keys.length < 1000000000000) := ⟨he, hkl⟩
 have e12 : ((e.op : Int) == 12) = false := by simpa using fun h2 : (e.op : Int) = 12 => h12 (by omega)
 have b0 := (Below.refl w.heap.size w).alloc (Nat.le_refl _) (.cells (e.cells tv).toArray 31)
 have b1 := b0.alloc (by simp) (.cells #[.int .u8 0, .int .u64 0, .int .i64 0, .int .i64 0, .int .i64 0, .int .i64 0, .int .i64 0, .int .i64 0, .int .i64 0, .int .i64 0, .slice none 0 0] 31)
 have V0 := aa w (e.cells tv) 31
 have hv1 := aa (w.alloc (.cells (e.cells tv).toArray 31)) ([.int .u8 0, .int .u64 0, .int .i64 0, .int .i64 0, .int .i64 0, .int .i64 0, .int .i64 0, .int .i64 0, .int .i64 0, .int .i64 0, .slice none 0 0] : List Value) 31
 rw [World.size_alloc] at hv1
 have y := V0.cell 0 (v := .int .u8 (e.op : Int)) rfl
 have HE_0 := hI_ V0
 have HF_0 := hI_ (V0.alloc (.cells #[.int .u8 0, .int .u64 0, .int .i64 0, .int .i64 0, .int .i64 0, .int .i64 0, .int .i64 0, .int .i64 0, .int .i64 0, .int .i64 0, .slice none 0 0] 31))
 have HV_0 := hI_ hv1
 have BB_0 := hI_ b1
 clear b0 b1 V0 hv1 hM R hno T hform hyes h12 hch hkl he
 go_enter func29, ntmps29
 go_wp2_with fail
 refine (dj e.op _).mono ?_
 rintro r wq ⟨rfl, hq⟩
 obtain rfl := hq.symm
 clear hq
 rw [hday]
 go_upto_region 4 with (first | (refine ldA rfl 31 _ rfl w.heap.size (by rfl) _ _ HE_0.out _ underlying31 rfl aj ?_) | (refine stA rfl 31 _ _ rfl (w.heap.size + 1) (by rfl) ([.int .u8 0, .int .u64 0, .int .i64 0, .int .i64 0, .int .i64 0, .int .i64 0, .int .i64 0, .int .i64 0, .int .i64 0, .int .i64 0, .slice none 0 0] : List Value) (e.cells tv) (by rfl) 31 HV_0.out aj rfl (EV.one e HTF.out) ?_; intro w1 v1 u1))
 have BB_1 : Hid (Below w.heap.size w w1) := u1.bel BB_0.out (by omega)
 have HV_1 := hI_ v1
 have HE_1 : Hid (VA w1 w.heap.size (e.cells tv) 31) := HF_0.out.upd u1 (by omega)
 have z := HV_1.out.cell 0 (v := .int .u8 (e.op : Int)) rfl
 clear v1 u1 y HE_0 HF_0 HV_0 BB_0
 go_wp2_with (refine ldA rfl 31 _ rfl (w.heap.size + 1) (by rfl) _ _ HV_1.out _ underlying31 rfl aj ?_)
 refine (HP.out w1 BB_1.out).mono ?_
 rintro r w2 ⟨⟨u, rfl, ou⟩, b2⟩
 obtain ⟨ua, un, uc, rfl⟩ := ou.form
 have BB_2 : Hid (Below w.heap.size w w2) := BB_1.out.trans (b2.mono BB_1.out.size)
 have V2 := aa w2 ([.int .u8 0, .int .u64 0, .int .i64 0, .int .i64 0, .int .i64 0, .int .i64 0, .int .i64 0, .int .i64 0, .int .i64 0, .int .i64 0, .slice none 0 0] : List Value) 31
 have B2 := (Below.refl w2.heap.size w2).alloc (Nat.le_refl _) (.cells #[.int .u8 0, .int .u64 0, .int .i64 0, .int .i64 0, .int .i64 0, .int .i64 0, .int .i64 0, .int .i64 0, .int .i64 0, .int .i64 0, .slice none 0 0] 31)
 have HV_2 := hI_ V2
 have HO_2 : Hid (OwnT _ w1.heap.size (.slice ua un uc) e.ts) := ou.step B2
 have HE_2 := hI_ ((HE_1.out.step b2).step B2)
 have BB_3 := hI_ (BB_2.out.trans (B2.mono BB_2.out.size))
 have s2 := BB_2.out.size
 have l2 := (HE_1.out.step b2).lt
 clear b2 V2 B2 z HV_1 BB_1 ou HE_1
 go_upto_region 9 with (refine stA rfl 31 _ _ rfl w2.heap.size (by rfl) ([.int .u8 0, .int .u64 0, .int .i64 0, .int .i64 0, .int .i64 0, .int .i64 0, .int .i64 0, .int .i64 0, .int .i64 0, .int .i64 0, .slice none 0 0] : List Value) (e.cells (.slice ua un uc)) (by rfl) 31 HV_2.out aj rfl (EV.one e ⟨ua, un, uc, rfl⟩) ?_; intro w3 v3 u3)
 have BB_4 : Hid (Below w.heap.size w w3) := u3.bel BB_3.out s2
 have HV_3 := hI_ v3
 have HO_3 : Hid (OwnT w3 w1.heap.size (.slice ua un uc) e.ts) := OwnT.updV HO_2.out HV_2.out (by decide) u3
 have HE_3 : Hid (VA w3 w.heap.size (e.cells tv) 31) := HE_2.out.upd u3 (by omega)
 clear v3 u3 HV_2 HO_2 HE_2 BB_3 BB_2
 go_wp2_with (first | (refine ldA rfl 31 _ rfl w2.heap.size (by rfl) _ _ HV_3.out _ underlying31 rfl aj ?_) | (refine ldA rfl 31 _ rfl w.heap.size (by rfl) _ _ HE_3.out _ underlying31 rfl aj ?_))
 refine Calls.mono (gR e.e8 (.slice ua un uc) tv w3 (EV.ok8 HOK.out.1) HO_3.out.tr (HR.out w3 BB_4.out)) ?_
 rintro r w4 ⟨rfl, b4⟩
 have BB_5 : Hid (Below w.heap.size w w4) := BB_4.out.trans (b4.mono BB_4.out.size)
 have HE_4 : Hid (VA w4 w.heap.size (e.cells tv) 31) := HE_3.out.step b4
 clear b4 HV_3 HO_3 HE_3 BB_4
 go_wp2_with (refine ldA rfl 31 _ rfl w.heap.size (by rfl) _ _ HE_4.out _ underlying31 rfl aj ?_)
 refine (HCH.out w4 BB_5.out).mono ?_
 rintro r w5 ⟨F', rfl, h1, h2, h3, h4⟩
 have HM_5 : Hid (MD w5 B F' M') := h1
 have HPK : Hid (F'.pm = F.pm ∧ F'.km = F.km) := ⟨h2, h3⟩
 have HB_5 : Hid (But (F.reach w B) w w5) := (ac BB_5.out _).trans h4 (fun j hl hj => FB.reach_back BB_5.out hl hj)
 have HE_5 : Hid (VA w5 w.heap.size (e.cells tv) 31) := HE_4.out.but h4 (HW.out.reach_no HE_4.out (Nat.le_refl _) (by decide) (by decide))
 have y := HE_5.out.cell 1 (v := .int .u64 (e.key : Int)) rfl
 rw [← h2]
 clear h1 h2 h3 h4 HE_4 BB_5
 go_wp2_with fail
 refine (n9 w5 B F' M' HM_5.out e.key (by have := HOK.out.1.key; omega) HOK.out.2).mono ?_
 rintro r w6 ⟨rfl, h1, h2⟩
 have HM_6 := hI_ h1
 have HB_6 : Hid (But (F.reach w B) w w6) := HB_5.out.trans h2 (fun j _ hj => Or.inl (Or.inr (Or.inr (Or.inr (Or.inr (Or.inl (hj.trans HPK.out.2)))))))
 clear h1 h2 y HE_5
 have c9 := HM_6.out.va.cell 9 (v := .int .i64 M'.seq) rfl
 have f9 := HM_6.out.va.free 9
 have hbk := HM_6.out.va.blk
 have U7 := au w6 F'.pm 9 (.int .i64 (M'.seq + 1))
 have V7 : VA (w6.setCell ⟨F'.pm, 9, none⟩ (.int .i64 (M'.seq + 1))) F'.pm (mcells F' { M' with keys := useL M'.keys e.key, seq := M'.seq + 1 }) 100 := HM_6.out.va.set 9 (.int .i64 (M'.seq + 1))
 go_wp2_with fail
 have hw := HM_6.out.wf
 refine bodyPost_ret (v := .int .i64 0) (by simp [results, results29, go_sem]) rfl ⟨F', rfl, HM_6.out.setM U7 V7 ⟨rfl, rfl, rfl, rfl, rfl, rfl⟩ ⟨hw.day, hw.acs, hw.sort, hw.len, hw.rats, ⟨by show 0 ≤ M'.seq + 1; omega, by show M'.seq + 1 ≤ _; omega⟩, hw.run, hw.adds⟩, HPK.out.1, HPK.out.2, HB_6.out.trans U7.but (fun j _ hj => Or.inl (Or.inl (hj.trans HPK.out.1)))⟩
theorem tC (w : World) (B : Nat) (F : FB) (M : PM) (h : MD w B F M) : Calls prog 20 #[.pointer (some ⟨F.pm, 0, none⟩)] w fun e w' => e = .returned (.int .i64 M.seq) ∧ w' = w := by
 have c := h.va.cell 9 (v := .int .i64 M.seq) rfl
 clear h
 go_enter func20, ntmps20
 go_wp2_with fail
 exact bodyPost_ret (v := .int .i64 M.seq) (by simp [results, results20, go_sem]) rfl ⟨rfl, rfl⟩
theorem tp (w : World) (B : Nat) (F : FB) (M : PM) (h : MD w B F M) : Calls prog 33 #[.pointer (some ⟨F.pm, 0, none⟩)] w fun e w' => e = .returned (.int .i64 M.day) ∧ w' = w := by
 have c := h.va.cell 0 (v := .int .i64 M.day) rfl
 clear h
 go_enter func33, ntmps33
 go_wp2_with fail
 exact bodyPost_ret (v := .int .i64 M.day) (by simp [results, results33, go_sem]) rfl ⟨rfl, rfl⟩
def ZA : List Value := [.int .i64 0, .int .i64 0, .int .i64 0, .int .i64 0, .bool false, .int .i64 0, .int .i64 0, .int .i64 0]
theorem kG (w : World) (B : Nat) (F : FB) (M : PM) (h : MD w B F M) {i : Nat} {a : PA} {x : Nat × Nat} (hi : IsA F M i a x) {n : Int} (hn : a.id = n) : Calls prog 14 #[.pointer (some ⟨F.pm, 0, none⟩), .int .i64 n] w fun e w' => e = .returned (.tuple #[.agg a.told.toArray, .int .i64 0]) ∧ Below w.heap.size w w' := by
 have b0 := (Below.refl w.heap.size w).alloc (Nat.le_refl _) (.cells #[.int .i64 0, .int .i64 0, .int .i64 0, .int .i64 0, .bool false, .int .i64 0, .int .i64 0, .int .i64 0] 36)
 have HM := hI_ (h.step b0)
 have HV := hI_ (aa w ZA 36)
 have BB := hI_ b0
 have HI := hI_ hi
 have HN := hI_ hn
 have HX := hI_ ((h.aw hi).step b0)
 have HT : Hid (∀ j u, a.told[j]? = some u → (a.cells x.2)[j]? = some u) := fun j u hj => by
  have e : a.cells x.2 = a.told ++ [.map (some x.2)] := rfl
  rw [e, List.getElem?_append_left (List.getElem?_eq_some_iff.1 hj).1]
  exact hj
 clear b0 h hi hn
 go_enter func14, ntmps14
 go_wp2_with fail
 refine (bn _ B F M HM.out HI.out HN.out).mono ?_
 rintro e wq ⟨rfl, hq⟩
 obtain rfl := hq.symm
 clear hq
 go_wp2_with (first | (refine wpList_load_mid rfl 36 _ rfl x.1 0 (by rfl) a.told _ (fun j u hj => by rw [Nat.zero_add]; exact HX.out.cell j (HT.out j u hj)) underlying36 rfl cw ?_) | (refine stA rfl 36 _ _ rfl w.heap.size (by rfl) ZA a.told (by rfl) 36 HV.out cw rfl (PA.told_one a) ?_; intro wf vf uf))
 have hld := run_loadVar_row (P := prog) wf w.heap.size 36 36 _ (0, 0) _ vf.blk underlying36 rfl cw
 exact bodyPost_ret (v := .tuple #[.agg a.told.toArray, .int .i64 0]) (by simp [results, results14, asAddr, hld]) rfl ⟨rfl, uf.bel BB.out (Nat.le_refl _)⟩
theorem xL {w : World} {ops : Array Oper} {rest : List Oper} {o : Oper} {a : Act} {Q : Exit → Act → World → Prop} (hgd : Region.wanted o (yielded ops a.tmps) = true) (t : TypeId) (x : Operand) (ho : o.op = .load t x)
  (p : Nat) (hx : a.eval x = .pointer (some ⟨p, 0, none⟩)) (cs : List Value) (T : TypeId) (h : VA w p cs T) (d : TypeDesc) (hu : prog.underlying t = some d) (hd : d.isRow = true) (hi : (prog.info? t).map (·.size) = some cs.length)
  (k : wpList prog ops Q rest (a.put o.dst (.agg cs.toArray)) w) : wpList prog ops Q (o :: rest) a w := by
 refine wpList_step fun K hK => ?_
 rw [if_pos hgd]
 exact wp_load_mid t x ho p 0 hx cs d (fun j v hv => by rw [Nat.zero_add]; exact h.cell j hv) hu hd hi (hK _ _ k)
end Go.Proofs.YtjkiplndbcmmbaaGreatDoor