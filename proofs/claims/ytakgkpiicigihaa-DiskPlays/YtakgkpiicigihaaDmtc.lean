/- disk LVIII: the document's Restart. -/
import Derived.Test.YtakgkpiicigihaaM4
import Derived.Deep.DeepCutAuto
import Derived.BigQuiet
namespace Go.Proofs.Ytakgkpiicigihaa
open Go.RowKit Go.Maps Go.Sort Go.Shelf pk
set_option linter.unusedVariables false
set_option linter.unusedSimpArgs false

set_option maxRecDepth 100000 in
set_option maxHeartbeats 8000000 in
theorem rrestart_c (w : World) (B q : Nat) (fv : Value) (y : RK) (h : RD w B q fv y) (hof : y.off = true) (dn : Bool) (ka : Option Addr) (kc L : Nat) (ks : List Bool) (hk : Bl w (.slice ka L kc) ks) (hks : 0 < L → ∀ b off n c, Value.slice ka L kc = .slice (some ⟨b, off, none⟩) n c → b < B) (hkl : L ≤ 140737488355328)
    (hu : dn = true → y.last ≠ 0 → y.last ≤ 4 ∧ (y.last = 2 → y.n ≤ 9223372036854775807) ∧ (y.last = 3 → y.b.length ≤ 16) ∧ (lkA (ra y.fs) y.a).isSome = true) (hdn : dn = true) (hla : ¬ y.last = 0) :
    Calls Try.prog 37 #[ptr q, .agg #[.bool dn, .slice ka L kc]] w fun r w' => r = .returned (.int .i64 0) ∧ ∃ y', rs y' = rres (rs y) dn ks ∧ RLv w w' B q y' := by
  obtain ⟨fa, fc, hfv, hc1, hc2⟩ := h.row.form
  subst hfv
  obtain ⟨y1, hy1⟩ : ∃ y1 : RK, y1 = { y with off := false, armed := 0 } := ⟨_, rfl⟩
  obtain ⟨wa, hwa⟩ : ∃ wa, wa = (w.setCell ⟨q, 2, none⟩ (.bool false)).setCell ⟨q, 3, none⟩ (.int .i64 0) := ⟨_, rfl⟩
  have Va : VA wa q (y1.cells (.slice fa y.fs.length fc)) 66 := by
    rw [hwa, hy1]
    have := (h.va.set 2 (.bool false)).set 3 (.int .i64 0)
    unfold RK.cells at this ⊢
    simpa using this
  have Ua : Upd q w wa := by rw [hwa]; exact (upd_set _ _ _ _).trans (upd_set _ _ _ _)
  obtain ⟨Ra, k1, b1⟩ := h.head Ua Va (by rw [hy1]) (by rw [hy1])
  have hsz : wa.heap.size = w.heap.size := Ua.size
  obtain ⟨w1, hw1⟩ : ∃ w1, w1 = wa.alloc (.cells #[.bool dn, .slice ka L kc] 34) := ⟨_, rfl⟩
  have bA : Below wa.heap.size wa w1 := by rw [hw1]; exact (Below.refl _ _).alloc (Nat.le_refl _) _
  have FB1 : VA w1 w.heap.size [.bool dn, .slice ka L kc] 34 := by rw [hw1, ← hsz]; exact va_new wa _ _
  have R1 := Ra.step bA
  have V1 := R1.va
  have HR1 : Hid (RD w1 B q (.slice fa y.fs.length fc) y1) := R1
  have HK1 : Hid (KeR w w1) := k1.trans (KeR.bel bA)
  have HB1 : Hid (Below B w w1) := b1.trans (bA.mono Ra.lt)
  have HFB1 : Hid (VA w1 w.heap.size [.bool dn, .slice ka L kc] 34) := FB1
  have HY1 : Hid (y1 = { y with off := false, armed := 0 }) := hy1
  have HU : Hid (dn = true → y.last ≠ 0 → y.last ≤ 4 ∧ (y.last = 2 → y.n ≤ 9223372036854775807) ∧ (y.last = 3 → y.b.length ≤ 16) ∧ (lkA (ra y.fs) y.a).isSome = true) := hu
  have HBL : Hid (Bl w (.slice ka L kc) ks) := hk
  have HSX : Hid (0 < L → ∀ b off n c, Value.slice ka L kc = .slice (some ⟨b, off, none⟩) n c → b < B) := hks
  have HL : Hid (L = ks.length) := (show L = ks.length by obtain ⟨a, c, e, _⟩ := hk.form; injection e)
  have hLc : L ≤ kc ∧ kc ≤ 9223372036854775807 := by obtain ⟨a, c, e, h1, h2, _⟩ := hk.form; injection e with e1 e2 e3; subst e3; rw [e2]; exact ⟨h1, h2⟩
  have hcnt := h.cnt
  have y2 := h.va.cell 2 (v := .bool y.off) rfl
  rw [hof] at y2
  have y3 := h.va.cell 3 (v := .int .i64 y.armed) rfl
  have f2 := h.va.free 2
  have f3 := h.va.free 3
  have z5 := V1.cell 5 (v := .int .i64 y1.last) rfl
  have g0 := FB1.cell 0 (v := .bool dn) rfl
  have hwl : w.heap.size < w1.heap.size := FB1.lt
  have hql : q < w.heap.size := h.va.lt
  have e5 : y1.last = y.last := by rw [hy1]
  rw [e5] at z5
  rw [hwa] at hw1
  have hp : (ptr q) = .pointer (some ⟨q, 0, none⟩) := rfl
  rw [hp]
  clear hk hks hu hy1 V1 R1 Ra FB1 Va Ua k1 b1 bA e5 hwa hsz
  have HDN : Hid (dn = true) := hdn
  have HLA : Hid (¬ y.last = 0) := hla
  clear hdn hla
  go_enter Try.func37, Try.ntmps37
  go_upto_region 6 with fail
  rw [← hw1]
  clear hw1 y2 y3 f2 f3
  rw [HDN.out] at g0
  have d1 : ((y.last : Int) == 0) = false := by have := HLA.out; simp; omega
  have d2 : ((y.last : Int) = 0) = False := by have := HLA.out; simp; omega
  obtain ⟨u1, u2, u3, u4⟩ := HU.out HDN.out HLA.out
  have hl1 : 1 ≤ y.last := by have := HLA.out; omega
  obtain ⟨t, ht⟩ : ∃ t, lkA (ra y.fs) y.a = some t := Option.isSome_iff_exists.1 u4
  have HT : Hid (lkA (ra y.fs) y.a = some t) := ht
  have HU3 : Hid (y.last = 3 → y.b.length ≤ 16) := u3
  have E5 : Hid (y1.last = y.last) := (show y1.last = y.last by rw [HY1.out])
  have E6 : Hid (y1.a = y.a) := (show y1.a = y.a by rw [HY1.out])
  have E7 : Hid (y1.b = y.b) := (show y1.b = y.b by rw [HY1.out])
  have E8 : Hid (y1.n = y.n) := (show y1.n = y.n by rw [HY1.out])
  have HU2 : Hid (y.last = 2 → y.n ≤ 9223372036854775807) := u2
  clear u2 u3 u4 ht
  go_upto_region 7 with fail
  refine wp_region_noPanic ?_
  refine wp_region_held_drew (S := fun V => ∃ f, VA V q (y1.cells f) 66) (by kernel_rfl) ⟨_, HR1.out.va.drew⟩ ?_
  intro hHeld
  have bd : Below w1.heap.size w1 w1.drew := (Below.refl _ _).drew
  generalize w1.drew = W0 at *
  refine takeD 0 33 (.pointer (some ⟨q, 0, none⟩)) (by exact rfl) rfl (by kernel_rfl) (by kernel_rfl) (by kernel_rfl) (fun _ _ _ h => h) (Or.inl ⟨by rfl, ?_⟩) (by assumption) ?_
  · intro wq hS
    go_simp
  try simp only [Act.put, List.setIfInBounds_toArray, List.set_cons_zero, List.set_cons_succ]
  refine takeD 1 34 (.pointer (some ⟨q, 0, none⟩)) (by exact rfl) rfl (by kernel_rfl) (by kernel_rfl) (by kernel_rfl) (fun _ _ _ h => h) (Or.inl ⟨by rfl, ?_⟩) (by assumption) ?_
  · intro wq hS
    go_simp
  try simp only [Act.put, List.setIfInBounds_toArray, List.set_cons_zero, List.set_cons_succ]
  refine takeD 2 35 (.pointer (some ⟨q, 0, none⟩)) (by exact rfl) rfl (by kernel_rfl) (by kernel_rfl) (by kernel_rfl) (fun _ _ _ h => h) (Or.inl ⟨by rfl, ?_⟩) (by assumption) ?_
  · intro wq hS
    go_simp
  try simp only [Act.put, List.setIfInBounds_toArray, List.set_cons_zero, List.set_cons_succ]
  refine takeD 3 36 (.pointer (some ⟨q, 5, none⟩)) (by exact rfl) rfl (by kernel_rfl) (by kernel_rfl) (by kernel_rfl) (fun _ _ _ h => h) (Or.inl ⟨by rfl, ?_⟩) (by assumption) ?_
  · intro wq hS
    go_simp
  try simp only [Act.put, List.setIfInBounds_toArray, List.set_cons_zero, List.set_cons_succ]
  refine takeD 4 37 (.int .i64 (y.last : Int)) (by exact rfl) rfl (by kernel_rfl) (by kernel_rfl) (by kernel_rfl) (fun _ _ _ h => h) (Or.inl ⟨by rfl, ?_⟩) (by assumption) ?_
  · intro wq hS
    obtain ⟨f, hv⟩ := hS; have c := hv.cell 5 (v := .int .i64 y1.last) rfl; rw [E5.out] at c
    go_simp
  try simp only [Act.put, List.setIfInBounds_toArray, List.set_cons_zero, List.set_cons_succ]
  refine takeD 5 38 (.pointer (some ⟨q, 0, none⟩)) (by exact rfl) rfl (by kernel_rfl) (by kernel_rfl) (by kernel_rfl) (fun _ _ _ h => h) (Or.inl ⟨by rfl, ?_⟩) (by assumption) ?_
  · intro wq hS
    go_simp
  try simp only [Act.put, List.setIfInBounds_toArray, List.set_cons_zero, List.set_cons_succ]
  refine takeD 6 39 (.pointer (some ⟨q, 0, none⟩)) (by exact rfl) rfl (by kernel_rfl) (by kernel_rfl) (by kernel_rfl) (fun _ _ _ h => h) (Or.inl ⟨by rfl, ?_⟩) (by assumption) ?_
  · intro wq hS
    go_simp
  try simp only [Act.put, List.setIfInBounds_toArray, List.set_cons_zero, List.set_cons_succ]
  refine takeD 7 40 (.pointer (some ⟨q, 6, none⟩)) (by exact rfl) rfl (by kernel_rfl) (by kernel_rfl) (by kernel_rfl) (fun _ _ _ h => h) (Or.inl ⟨by rfl, ?_⟩) (by assumption) ?_
  · intro wq hS
    go_simp
  try simp only [Act.put, List.setIfInBounds_toArray, List.set_cons_zero, List.set_cons_succ]
  refine takeD 8 41 (.string ⟨y.a.toArray⟩) (by exact rfl) rfl (by kernel_rfl) (by kernel_rfl) (by kernel_rfl) (fun _ _ _ h => h) (Or.inl ⟨by rfl, ?_⟩) (by assumption) ?_
  · intro wq hS
    obtain ⟨f, hv⟩ := hS; have c := hv.cell 6 (v := .string ⟨y1.a.toArray⟩) rfl; rw [E6.out] at c
    go_simp
  try simp only [Act.put, List.setIfInBounds_toArray, List.set_cons_zero, List.set_cons_succ]
  refine takeD 9 42 (.pointer (some ⟨q, 0, none⟩)) (by exact rfl) rfl (by kernel_rfl) (by kernel_rfl) (by kernel_rfl) (fun _ _ _ h => h) (Or.inl ⟨by rfl, ?_⟩) (by assumption) ?_
  · intro wq hS
    go_simp
  try simp only [Act.put, List.setIfInBounds_toArray, List.set_cons_zero, List.set_cons_succ]
  refine takeD 10 43 (.pointer (some ⟨q, 0, none⟩)) (by exact rfl) rfl (by kernel_rfl) (by kernel_rfl) (by kernel_rfl) (fun _ _ _ h => h) (Or.inl ⟨by rfl, ?_⟩) (by assumption) ?_
  · intro wq hS
    go_simp
  try simp only [Act.put, List.setIfInBounds_toArray, List.set_cons_zero, List.set_cons_succ]
  refine takeD 11 44 (.pointer (some ⟨q, 7, none⟩)) (by exact rfl) rfl (by kernel_rfl) (by kernel_rfl) (by kernel_rfl) (fun _ _ _ h => h) (Or.inl ⟨by rfl, ?_⟩) (by assumption) ?_
  · intro wq hS
    go_simp
  try simp only [Act.put, List.setIfInBounds_toArray, List.set_cons_zero, List.set_cons_succ]
  refine takeD 12 45 (.string ⟨y.b.toArray⟩) (by exact rfl) rfl (by kernel_rfl) (by kernel_rfl) (by kernel_rfl) (fun _ _ _ h => h) (Or.inl ⟨by rfl, ?_⟩) (by assumption) ?_
  · intro wq hS
    obtain ⟨f, hv⟩ := hS; have c := hv.cell 7 (v := .string ⟨y1.b.toArray⟩) rfl; rw [E7.out] at c
    go_simp
  try simp only [Act.put, List.setIfInBounds_toArray, List.set_cons_zero, List.set_cons_succ]
  refine takeD 13 46 (.pointer (some ⟨q, 0, none⟩)) (by exact rfl) rfl (by kernel_rfl) (by kernel_rfl) (by kernel_rfl) (fun _ _ _ h => h) (Or.inl ⟨by rfl, ?_⟩) (by assumption) ?_
  · intro wq hS
    go_simp
  try simp only [Act.put, List.setIfInBounds_toArray, List.set_cons_zero, List.set_cons_succ]
  refine takeD 14 47 (.pointer (some ⟨q, 0, none⟩)) (by exact rfl) rfl (by kernel_rfl) (by kernel_rfl) (by kernel_rfl) (fun _ _ _ h => h) (Or.inl ⟨by rfl, ?_⟩) (by assumption) ?_
  · intro wq hS
    go_simp
  try simp only [Act.put, List.setIfInBounds_toArray, List.set_cons_zero, List.set_cons_succ]
  refine takeD 15 48 (.pointer (some ⟨q, 8, none⟩)) (by exact rfl) rfl (by kernel_rfl) (by kernel_rfl) (by kernel_rfl) (fun _ _ _ h => h) (Or.inl ⟨by rfl, ?_⟩) (by assumption) ?_
  · intro wq hS
    go_simp
  try simp only [Act.put, List.setIfInBounds_toArray, List.set_cons_zero, List.set_cons_succ]
  refine takeD 16 49 (.int .i64 (y.n : Int)) (by exact rfl) rfl (by kernel_rfl) (by kernel_rfl) (by kernel_rfl) (fun _ _ _ h => h) (Or.inl ⟨by rfl, ?_⟩) (by assumption) ?_
  · intro wq hS
    obtain ⟨f, hv⟩ := hS; have c := hv.cell 8 (v := .int .i64 y1.n) rfl; rw [E8.out] at c
    go_simp
  try simp only [Act.put, List.setIfInBounds_toArray, List.set_cons_zero, List.set_cons_succ]
  refine wpAnyH_ready (rs := [17]) (by kernel_rfl) (by simp) ?_
  refine AllReadyH.cons (by exact rfl) (fun K hK => ?_) AllReadyH.nil
  go_simp
  have RW := HR1.out.step bd
  have HFY : Hid (ra y1.fs = ra y.fs) := (show ra y1.fs = ra y.fs by rw [HY1.out])
  refine (carry_any W0 B q _ y1 RW ⟨y.last, y.a, y.b, y.n⟩ ⟨hl1, u1⟩ HU2.out HU3.out t (by rw [HFY.out]; exact HT.out)).mono ?_
  rintro r wc ⟨⟨vv, rfl⟩, fs1, hfs1, hlp⟩
  go_wp2_with fail
  obtain ⟨fv1, hRD1, _⟩ := hlp.1
  refine hK.out _ _ ⟨fv1, hRD1.va⟩ (fun hHeld1 => ?_)
  clear hK K
  refine wpAnyH_done (by kernel_rfl) ?_ _
  refine NoPanic.normal ?_
  have hlv := hlp.lv RW
  have hcut : Hid (∃ fs1 fv1, ra fs1 = rund (rs y) dn ∧ RD wc B q fv1 { y1 with fs := fs1 } ∧ KeR w wc ∧ Below B w wc ∧ VA wc w.heap.size [.bool dn, .slice ka L kc] 34) := by
    refine ⟨fs1, fv1, ?_, hRD1, (HK1.out.trans (KeR.bel bd)).trans hlv.2.1, (HB1.out.trans (bd.mono HR1.out.lt)).trans hlv.2.2, ((HFB1.out.step bd).ker hlv.2.1 (by unfold Rt; decide))⟩
    rw [hfs1, HFY.out]
    unfold rund
    rw [if_pos ⟨HDN.out, HLA.out⟩]
    show _ = match lkA (ra y.fs) y.a with | none => _ | some t => _
    rw [HT.out]
    rfl
  clear hHeld hHeld1 hRD1 hlp hlv RW bd hfs1
  go_upto_region 8 with fail
  obtain ⟨fs1, fv1, hra, R8, K8, B8, FB8⟩ := hcut.out
  clear hcut HR1 HK1 HB1 HFB1 z5 g0 HU hwl
  obtain ⟨ga, gc, hfv1, gc1, gc2⟩ := R8.row.form
  obtain ⟨N, hN⟩ : ∃ N, N = fs1.length := ⟨_, rfl⟩
  have hfv2 : fv1 = .slice ga N gc := by rw [hN]; exact hfv1
  have gc3 : N ≤ gc := by rw [hN]; exact gc1
  have hN64 : N ≤ 64 := by rw [hN]; exact R8.cnt
  clear hfv1 gc1
  subst hfv2
  obtain ⟨y3, hy3⟩ : ∃ y3 : RK, y3 = { y1 with fs := fs1, last := 0 } := ⟨_, rfl⟩
  obtain ⟨w9, hw9⟩ : ∃ w9, w9 = wc.setCell ⟨q, 5, none⟩ (.int .i64 0) := ⟨_, rfl⟩
  have V9 : VA w9 q (y3.cells (.slice ga N gc)) 66 := by
    rw [hw9, hy3]
    have := R8.va.set 5 (.int .i64 0)
    unfold RK.cells at this ⊢
    simpa using this
  obtain ⟨R9, k9, b9⟩ := R8.head (y' := y3) (by rw [hw9]; exact upd_set _ _ _ _) V9 (by rw [hy3]) (by rw [hy3])
  have z5 := R8.va.cell 5 (v := .int .i64 y1.last) rfl
  have f5 := R8.va.free 5
  have z0 := V9.cell 0 (v := .slice ga N gc) rfl
  have HR9 : Hid (RD w9 B q (.slice ga N gc) y3) := R9
  have HK9 : Hid (KeR w w9) := K8.trans k9
  have HB9 : Hid (Below B w w9) := B8.trans b9
  have HFB9 : Hid (VA w9 w.heap.size [.bool dn, .slice ka L kc] 34) := FB8.ker k9 (by unfold Rt; decide)
  have HFS : Hid (ra fs1 = rund (rs y) dn) := hra
  have HY3 : Hid (y3 = { y1 with fs := fs1, last := 0 }) := hy3
  have HN : Hid (N = fs1.length) := hN
  have HRT : Hid (rtotA (ra fs1) ≤ 65536) := (show rtotA (ra fs1) ≤ 65536 by have h1 := R9.room; rw [hy3] at h1; rw [rtot_ra]; simp only at h1; omega)
  have HGA : Hid (0 < N → ∃ g off, ga = some ⟨g, off, none⟩ ∧ off = 0) := (show 0 < N → ∃ g off, ga = some ⟨g, off, none⟩ ∧ off = 0 from fun h0 => by
    rcases R9.row.own.2 with ⟨e, h1⟩ | ⟨g', cap', cur, e, _⟩
    · injection e with _ e _
      omega
    · injection e with e _ _
      exact ⟨g', 0, e, rfl⟩)
  clear hra R8 K8 B8 FB8 R9 k9 b9 V9 hN hy3
  go_upto_region 9 with fail
  rw [← hw9]
  clear hw9 z5 f5
  go_wp2_with fail
  go_loopw [5, 59] (fun kv iv wr => ∃ (ii kk : Nat) (Fi : List RF), ii ≤ N ∧ iv = .int .i64 (ii : Int) ∧ kv = .int .i64 (kk : Int) ∧ Hid (kk = (rAt ks (ra fs1) ii).2) ∧ Hid (Fi.length = N) ∧ Hid (ra Fi = (rAt ks (ra fs1) ii).1 ++ (ra fs1).drop ii) ∧ Hid (RD wr B q (.slice ga N gc) { y3 with fs := Fi }) ∧ Hid (KeR w wr) ∧ Hid (Below B w wr) ∧ Hid (VA wr w.heap.size [.bool dn, .slice ka L kc] 34)) (fun _ iv _ => N - (intOf iv).toNat)
  case atStart => exact ⟨0, 0, fs1, Nat.zero_le _, rfl, rfl, rfl, HN.out.symm, (by show ra fs1 = [] ++ (ra fs1).drop 0; rw [List.drop_zero]; rfl), (by show RD _ _ _ _ _; rw [show ({ y3 with fs := fs1 } : RK) = y3 by rw [HY3.out]]; exact HR9.out), HK9.out, HB9.out, HFB9.out⟩
  case round =>
    obtain ⟨ii, kk, Fi, hii, rfl, rfl, HKK, HFL, HFI, HRD, HK, HB, HFB⟩ := hrel
    obtain ⟨wo, hwo⟩ : ∃ wo, wo = wr := ⟨_, rfl⟩
    subst hwo
    clear HR9 HK9 HB9 HFB9 z0
    have hrl : (ra fs1).length = N := by rw [HN.out]; simp [ra]
    have hkk : kk ≤ 65536 := by have h1 := rAt_k ks (ra fs1) ii (by omega); have h2 := rtotA_le (ra fs1) ii; have h3 := HRT.out; have h4 := HKK.out; omega
    have HRL : Hid ((ra fs1).length = N) := hrl
    clear hrl
    by_cases hlt : ii < N
    · have dk : (ii : Int) < (N : Int) := by omega
      have hil : ii < Fi.length := by rw [HFL.out]; exact hlt
      obtain ⟨x, hx⟩ : ∃ x, x = Fi[ii] := ⟨_, rfl⟩
      have hxq : Fi[ii]? = some x := by rw [hx]; exact List.getElem?_eq_getElem hil
      obtain ⟨g, off, hga, hof0⟩ := HGA.out (by omega)
      subst hga
      have HOF : Hid (off = 0) := hof0
      obtain ⟨b', off', e, hbl, hcell⟩ := HRD.out.row.sl.at ii x hxq
      injection e with e
      injection e with eb eo _
      subst eb
      subst eo
      have HRF : Hid (Rf wo x) := HRD.out.fil x (List.mem_of_getElem? hxq)
      obtain ⟨nm, ba, bc, bs, fa2, fc2, fl⟩ := x
      have HCL : Hid (∀ j v, [Value.string ⟨nm.toArray⟩, .slice ba bs.length bc, .slice fa2 fl.length fc2][j]? = some v → wo.cell? ⟨g, off + ii * 3 + j, none⟩ = some v) := hcell
      have HXQ : Hid (Fi[ii]? = some ⟨nm, ba, bc, bs, fa2, fc2, fl⟩) := hxq
      have HT3 : Hid ((ra fs1).getD ii ([], [], []) = (nm, bs, fl)) := by
        show _ = _
        have h1 : (ra Fi)[ii]? = some (nm, bs, fl) := by unfold ra; rw [List.getElem?_map, hxq]; rfl
        rw [HFI.out, List.getElem?_append_right (by rw [rAt_len _ _ _ (by rw [HRL.out]; omega)]; exact Nat.le_refl _), rAt_len _ _ _ (by rw [HRL.out]; omega), Nat.sub_self, List.getElem?_drop, Nat.add_zero] at h1
        rw [List.getD_eq_getElem?_getD, h1]
        rfl
      have HLN : Hid (bs.length = 32 * fl.length) := HRF.out.len
      have hfl : fl.length ≤ 65536 := by
        have h1 := rtot_out (List.mem_of_getElem? hxq)
        have h2 := HRD.out.room
        simp only at h1 h2
        omega
      have hbsl : bs.length ≤ 2097152 := by have := HLN.out; omega
      have HFLG : Hid (0 < fl.length → ∃ b2 o2, fa2 = some ⟨b2, o2, none⟩ ∧ b2 < wo.heap.size ∧ ∀ i, i < fl.length → wo.cell? ⟨b2, o2 + i, none⟩ = some (.bool (fl.getD i false))) := (show 0 < fl.length → _ from fun h0 => by
        obtain ⟨a, c, e, _, _, h3⟩ := HRF.out.k.form
        obtain ⟨b2, o2, e2, h4⟩ := h3 h0
        injection e with e _ _
        have e5 : fa2 = some ⟨b2, o2, none⟩ := e.trans e2
        obtain ⟨cs, T, z, h5, _⟩ := HRF.out.kss b2 o2 _ _ (by show Value.slice fa2 _ _ = _; rw [e5])
        exact ⟨b2, o2, e5, hlt_of h5, h4⟩)
      have hfc : fl.length ≤ fc2 ∧ fc2 ≤ 9223372036854775807 := by obtain ⟨a, c, e, h1, h2, _⟩ := HRF.out.k.form; injection e with _ _ e; subst e; exact ⟨h1, h2⟩
      have HKP : Hid (0 < L → ∃ b3 o3, ka = some ⟨b3, o3, none⟩ ∧ b3 < wo.heap.size ∧ ∀ i, i < L → wo.cell? ⟨b3, o3 + i, none⟩ = some (.bool (ks.getD i false))) := (show 0 < L → _ from fun h0 => by
        obtain ⟨a, c, e, _, _, h3⟩ := HBL.out.form
        obtain ⟨b3, o3, e2, h4⟩ := h3 (by rw [← HL.out]; exact h0)
        injection e with e _ _
        have e5 : ka = some ⟨b3, o3, none⟩ := e.trans e2
        have hb3 := HSX.out h0 b3 o3 _ _ (by rw [e5])
        exact ⟨b3, o3, e5, Nat.lt_of_lt_of_le hb3 HRD.out.lt, fun i hi => (HB.out.cell (p := ⟨b3, o3 + i, none⟩) hb3).trans (h4 i (by rw [← HL.out]; exact hi))⟩)
      have hqo : q < wo.heap.size := HRD.out.va.lt
      have hfbo : w.heap.size < wo.heap.size := HFB.out.lt
      have HQ0 : Hid (wo.cell? ⟨q, 0, none⟩ = some (.slice (some ⟨g, off, none⟩) N gc)) := HRD.out.va.cell 0 (v := .slice (some ⟨g, off, none⟩) N gc) rfl
      have HQF : Hid (wo.cell? ⟨w.heap.size, 1, none⟩ = some (.slice ka L kc)) := HFB.out.cell 1 (v := .slice ka L kc) rfl
      clear hcell hxq hx hof0 hil
      have HB4 : Hid (Below wo.heap.size wo (wo.alloc (.cells #[] 5))) := (Below.refl _ _).alloc (Nat.le_refl _) _
      have HO4 : Hid (OwnB (wo.alloc (.cells #[] 5)) wo.heap.size (.slice (some ⟨wo.heap.size, 0, none⟩) 0 0) []) := pk.own_made wo
      have HBS4 : Hid (Bs (wo.alloc (.cells #[] 5)) (.slice ba bs.length bc) bs) := HRF.out.b.step HB4.out
      have q0 := (HB4.out.cell (p := ⟨q, 0, none⟩) hqo).trans HQ0.out
      have q1 := (HB4.out.cell (p := ⟨g, off + ii * 3 + 1, none⟩) hbl).trans (HCL.out 1 _ rfl)
      go_upto_region 14 with (at_builtin; refine appB rfl _ _ rfl wo.heap.size [] bs _ _ (by rfl) (by rfl) HO4.out HBS4.out (by simp) (by simp only [List.length_nil]; omega) ?_; intro v5 w5 o5 b5; have HO5 : Hid (OwnB w5 wo.heap.size v5 bs) := o5; have HB5 : Hid (Below wo.heap.size wo w5) := HB4.out.trans b5; obtain ⟨_, a5, c5, hv5, h51, h52, _⟩ := o5.bs; have h51' : bs.length ≤ c5 := h51; have hv5' : v5 = .slice a5 bs.length c5 := hv5; clear o5 b5 hv5 h51; obtain ⟨n5, hn5⟩ : ∃ n5, n5 = bs.length := ⟨_, rfl⟩; rw [← hn5] at hv5' h51'; have HN5 : Hid (n5 = bs.length) := hn5; clear hn5; subst hv5')
      have r0 := (HB5.out.cell (p := ⟨q, 0, none⟩) hqo).trans HQ0.out
      have r2 := (HB5.out.cell (p := ⟨g, off + ii * 3 + 2, none⟩) hbl).trans (HCL.out 2 _ rfl)
      clear q0 q1 HB4 HO4 HBS4
      have hn5l : n5 ≤ 2097152 := by have := HN5.out; omega
      go_wp2_with fail
      generalize hLx : fl.length = Lx at *
      have HLX : Hid (fl.length = Lx) := hLx
      clear hLx
      go_loopw [5, 81] (fun kv jv wr => ∃ (jj kj : Nat), jj ≤ Lx ∧ jv = .int .i64 (jj : Int) ∧ kv = .int .i64 (kj : Int) ∧ Hid (kj = (zAt ks fl bs kk jj).2) ∧ Hid (OwnB wr wo.heap.size (.slice a5 n5 c5) (zAt ks fl bs kk jj).1) ∧ Hid (Below wo.heap.size wo wr)) (fun _ jv _ => Lx - (intOf jv).toNat)
      case atStart => exact ⟨0, kk, Nat.zero_le _, rfl, rfl, rfl, HO5.out, HB5.out⟩
      case round =>
        obtain ⟨jj, kj, hjj, rfl, rfl, HKJ, HOJ, HBJ⟩ := hrel
        obtain ⟨wp, hwp⟩ : ∃ wp, wp = wr := ⟨_, rfl⟩
        subst hwp
        clear HO5 HB5 r0 r2
        have hkj : kj ≤ 131072 := by have h1 := zAt_k ks fl bs kk jj; have h2 := HKJ.out; omega
        by_cases hjl : jj < Lx
        · have dj : (jj : Int) < (Lx : Int) := by omega
          obtain ⟨z, hz⟩ : ∃ z, fl[jj]? = some z := ⟨_, List.getElem?_eq_getElem (by rw [HLX.out]; exact hjl)⟩
          have HFJ : Hid (fl.getD jj true = z) := (show fl.getD jj true = z by rw [List.getD_eq_getElem?_getD, hz]; rfl)
          obtain ⟨b2, o2, hfa, hb2, hfcell⟩ := HFLG.out (by omega)
          subst hfa
          have cz := (HBJ.out.cell (p := ⟨b2, o2 + jj, none⟩) hb2).trans (hfcell jj hjl)
          rw [List.getD_eq_getElem?_getD, hz] at cz
          simp only [Option.getD_some] at cz
          clear hfcell hz
          cases z with
          | true =>
            have HZ : Hid (zAt ks fl bs kk (jj + 1) = zAt ks fl bs kk jj) := by
              show _ = _
              rw [zAt, if_pos HFJ.out]
            go_wp2_with fail
            go_roundw
            case rel => exact ⟨jj + 1, kj, by omega, by simp, rfl, (show kj = _ by rw [HZ.out]; exact HKJ.out), (by show OwnB _ _ _ _; rw [HZ.out]; exact HOJ.out), HBJ.out⟩
            case measure => simp [intOf]; omega
          | false =>
            have u1 := (HBJ.out.cell (p := ⟨w.heap.size, 1, none⟩) hfbo).trans HQF.out
            by_cases hkL : kj < L
            · have dkL : (kj : Int) < (L : Int) := by omega
              obtain ⟨b3, o3, hka, hb3, hkcell⟩ := HKP.out (by omega)
              subst hka
              obtain ⟨z3, hz3⟩ : ∃ z3, ks.getD kj false = z3 := ⟨_, rfl⟩
              have c3 := (HBJ.out.cell (p := ⟨b3, o3 + kj, none⟩) hb3).trans (hkcell kj hkL)
              rw [hz3] at c3
              clear hkcell
              cases z3 with
              | true =>
                have HKF : Hid (ks.getD kj false = true) := hz3
                clear hz3
                have HZ : Hid (zAt ks fl bs kk (jj + 1) = ((zAt ks fl bs kk jj).1, kj + 1)) := by
                  show _ = _
                  rw [zAt, if_neg (by rw [HFJ.out]; simp), ← HKJ.out, if_pos HKF.out]
                go_wp2_with fail
                go_roundw
                case rel => exact ⟨jj + 1, kj + 1, by omega, by simp, by simp, (show kj + 1 = _ by rw [HZ.out]), (by show OwnB _ _ _ _; rw [HZ.out]; exact HOJ.out), HBJ.out⟩
                case measure => simp [intOf]; omega
              | false =>
                have HKF : Hid (ks.getD kj false = false) := hz3
                clear hz3
                have HZ : Hid (zAt ks fl bs kk (jj + 1) = (zer (zAt ks fl bs kk jj).1 jj, kj + 1)) := by
                  show _ = _
                  rw [zAt, if_neg (by rw [HFJ.out]; simp), ← HKJ.out, if_neg (by rw [HKF.out]; simp)]
                have HZL : Hid ((zAt ks fl bs kk jj).1.length = n5) := (show (zAt ks fl bs kk jj).1.length = n5 by rw [zAt_len _ _ _ _ _ (by have := HLN.out; omega), HN5.out])
                rcases HOJ.out.head with ⟨_, e2⟩ | ⟨g5, c6, e, hg5a, hg5b, _, _⟩
                · exfalso
                  have h1 := HZL.out
                  rw [e2] at h1
                  have h2 := HN5.out
                  have h3 := HLN.out
                  simp at h1
                  omega
                injection e with e1 e4 e5
                subst e1
                subst e5
                clear e4
                generalize hzb : (zAt ks fl bs kk jj).1 = zb at *
                have HZB : Hid (zb = (zAt ks fl bs kk jj).1) := hzb.symm
                clear hzb
                have hjn : 32 * jj + 32 ≤ n5 := by have := HN5.out; have := HLN.out; omega
                go_wp2_with fail
                go_loopw [10] (fun bv wr => ∃ p m : Nat, m ≤ 32 ∧ bv = .int .i64 (p : Int) ∧ Hid (p = 32 * jj + m) ∧ p ≤ 3000000 ∧ Hid (OwnB wr wo.heap.size (.slice (some ⟨g5, 0, none⟩) n5 c5) (pz zb jj m)) ∧ Hid (Below wo.heap.size wo wr)) (fun bv _ => 32 * jj + 32 - (intOf bv).toNat)
                case atStart => exact ⟨32 * jj, 0, by omega, by simp, rfl, by omega, (by show OwnB _ _ _ _; rw [pz_0]; exact HOJ.out), HBJ.out⟩
                case round =>
                  obtain ⟨p, m, hm, rfl, HP, hpb, HOM, HBM⟩ := hrel
                  have hpz : (pz zb jj m).length = n5 := by rw [pz_len _ _ _ (by rw [HZL.out]; omega)]; exact HZL.out
                  by_cases hm32 : m < 32
                  · have dp : (p : Int) < 32 * (jj : Int) + 32 := by have := HP.out; omega
                    have dn5 : (p : Int) < (n5 : Int) := by have := HP.out; omega
                    have c := HOM.out.cellAt p (by rw [hpz]; have := HP.out; omega)
                    have f := HOM.out.free p
                    have HPZ : Hid ((pz zb jj m).set p 0 = pz zb jj (m + 1)) := by show _ = _; rw [HP.out]; exact pz_set _ _ _ (by rw [HZL.out]; omega)
                    have HO2 : Hid (OwnB (wr.setCell ⟨g5, p, none⟩ (.int .u8 0)) wo.heap.size (.slice (some ⟨g5, 0, none⟩) n5 c5) (pz zb jj (m + 1))) := by show OwnB _ _ _ _; rw [← HPZ.out]; exact HOM.out.set hpz p 0 (by omega)
                    have HB2 : Hid (Below wo.heap.size wo (wr.setCell ⟨g5, p, none⟩ (.int .u8 0))) := (upd_set wr g5 p (.int .u8 0)).bel HBM.out hg5a
                    clear hpz
                    go_wp2_with fail
                    go_roundw
                    case rel => exact ⟨p + 1, m + 1, by omega, by simp, (show p + 1 = 32 * jj + (m + 1) by have := HP.out; omega), by have := HP.out; omega, HO2.out, HB2.out⟩
                    case measure => have := HP.out; simp [intOf]; omega
                  · obtain rfl : m = 32 := by omega
                    have dp : 32 * (jj : Int) + 32 ≤ (p : Int) := by have := HP.out; omega
                    clear hpz
                    go_wp2_with fail
                    go_roundw
                    case rel => exact ⟨jj + 1, kj + 1, by omega, by simp, by simp, (show kj + 1 = _ by rw [HZ.out]), (by show OwnB _ _ _ _; rw [HZ.out]; exact HOM.out), HBM.out⟩
                    case measure => simp [intOf]; omega
            · have dkL : (L : Int) ≤ (kj : Int) := by omega
              have HKF : Hid (ks.getD kj false = false) := (show ks.getD kj false = false by rw [List.getD_eq_getElem?_getD, List.getElem?_eq_none (by have := HL.out; omega)]; rfl)
              have HZ : Hid (zAt ks fl bs kk (jj + 1) = (zer (zAt ks fl bs kk jj).1 jj, kj + 1)) := by
                show _ = _
                rw [zAt, if_neg (by rw [HFJ.out]; simp), ← HKJ.out, if_neg (by rw [HKF.out]; simp)]
              have HZL : Hid ((zAt ks fl bs kk jj).1.length = n5) := (show (zAt ks fl bs kk jj).1.length = n5 by rw [zAt_len _ _ _ _ _ (by have := HLN.out; omega), HN5.out])
              rcases HOJ.out.head with ⟨_, e2⟩ | ⟨g5, c6, e, hg5a, hg5b, _, _⟩
              · exfalso
                have h1 := HZL.out
                rw [e2] at h1
                have h2 := HN5.out
                have h3 := HLN.out
                simp at h1
                omega
              injection e with e1 e4 e5
              subst e1
              subst e5
              clear e4
              generalize hzb : (zAt ks fl bs kk jj).1 = zb at *
              have HZB : Hid (zb = (zAt ks fl bs kk jj).1) := hzb.symm
              clear hzb
              have hjn : 32 * jj + 32 ≤ n5 := by have := HN5.out; have := HLN.out; omega
              go_wp2_with fail
              go_loopw [10] (fun bv wr => ∃ p m : Nat, m ≤ 32 ∧ bv = .int .i64 (p : Int) ∧ Hid (p = 32 * jj + m) ∧ p ≤ 3000000 ∧ Hid (OwnB wr wo.heap.size (.slice (some ⟨g5, 0, none⟩) n5 c5) (pz zb jj m)) ∧ Hid (Below wo.heap.size wo wr)) (fun bv _ => 32 * jj + 32 - (intOf bv).toNat)
              case atStart => exact ⟨32 * jj, 0, by omega, by simp, rfl, by omega, (by show OwnB _ _ _ _; rw [pz_0]; exact HOJ.out), HBJ.out⟩
              case round =>
                obtain ⟨p, m, hm, rfl, HP, hpb, HOM, HBM⟩ := hrel
                have hpz : (pz zb jj m).length = n5 := by rw [pz_len _ _ _ (by rw [HZL.out]; omega)]; exact HZL.out
                by_cases hm32 : m < 32
                · have dp : (p : Int) < 32 * (jj : Int) + 32 := by have := HP.out; omega
                  have dn5 : (p : Int) < (n5 : Int) := by have := HP.out; omega
                  have c := HOM.out.cellAt p (by rw [hpz]; have := HP.out; omega)
                  have f := HOM.out.free p
                  have HPZ : Hid ((pz zb jj m).set p 0 = pz zb jj (m + 1)) := by show _ = _; rw [HP.out]; exact pz_set _ _ _ (by rw [HZL.out]; omega)
                  have HO2 : Hid (OwnB (wr.setCell ⟨g5, p, none⟩ (.int .u8 0)) wo.heap.size (.slice (some ⟨g5, 0, none⟩) n5 c5) (pz zb jj (m + 1))) := by show OwnB _ _ _ _; rw [← HPZ.out]; exact HOM.out.set hpz p 0 (by omega)
                  have HB2 : Hid (Below wo.heap.size wo (wr.setCell ⟨g5, p, none⟩ (.int .u8 0))) := (upd_set wr g5 p (.int .u8 0)).bel HBM.out hg5a
                  clear hpz
                  go_wp2_with fail
                  go_roundw
                  case rel => exact ⟨p + 1, m + 1, by omega, by simp, (show p + 1 = 32 * jj + (m + 1) by have := HP.out; omega), by have := HP.out; omega, HO2.out, HB2.out⟩
                  case measure => have := HP.out; simp [intOf]; omega
                · obtain rfl : m = 32 := by omega
                  have dp : 32 * (jj : Int) + 32 ≤ (p : Int) := by have := HP.out; omega
                  clear hpz
                  go_wp2_with fail
                  go_roundw
                  case rel => exact ⟨jj + 1, kj + 1, by omega, by simp, by simp, (show kj + 1 = _ by rw [HZ.out]), (by show OwnB _ _ _ _; rw [HZ.out]; exact HOM.out), HBM.out⟩
                  case measure => simp [intOf]; omega
        · obtain rfl : jj = Lx := by omega
          go_upto_region 25 with fail
          have HZL : Hid ((zAt ks fl bs kk jj).1.length = n5) := (show (zAt ks fl bs kk jj).1.length = n5 by rw [zAt_len _ _ _ _ _ (by have := HLN.out; omega), HN5.out])
          generalize hzb : (zAt ks fl bs kk jj).1 = zb at *
          have HZB : Hid ((zAt ks fl bs kk jj).1 = zb) := hzb
          clear hzb
          refine wp_region_noPanic ?_
          refine wp_region_held_drew (S := fun V => VA V q (y3.cells (.slice (some ⟨g, off, none⟩) N gc)) 66) (by kernel_rfl) (VA.drew (HRD.out.va.step HBJ.out)) ?_
          intro hHeld
          have bW0 : Below wo.heap.size wo wp.drew := HBJ.out.drew
          have oW0 : OwnB wp.drew wo.heap.size (.slice a5 n5 c5) zb := HOJ.out.stp ((Below.refl _ _).drew)
          generalize wp.drew = W0 at *
          refine takeD 0 115 (.pointer (some ⟨q, 0, none⟩)) (by exact rfl) rfl (by kernel_rfl) (by kernel_rfl) (by kernel_rfl) (fun _ _ _ h => h) (Or.inl ⟨by rfl, ?_⟩) (by assumption) ?_
          · intro wq hS
            go_simp
          try simp only [Act.put, List.setIfInBounds_toArray, List.set_cons_zero, List.set_cons_succ]
          refine takeD 1 116 (.pointer (some ⟨q, 0, none⟩)) (by exact rfl) rfl (by kernel_rfl) (by kernel_rfl) (by kernel_rfl) (fun _ _ _ h => h) (Or.inl ⟨by rfl, ?_⟩) (by assumption) ?_
          · intro wq hS
            go_simp
          try simp only [Act.put, List.setIfInBounds_toArray, List.set_cons_zero, List.set_cons_succ]
          refine takeD 2 117 (.pointer (some ⟨q, 0, none⟩)) (by exact rfl) rfl (by kernel_rfl) (by kernel_rfl) (by kernel_rfl) (fun _ _ _ h => h) (Or.inl ⟨by rfl, ?_⟩) (by assumption) ?_
          · intro wq hS
            go_simp
          try simp only [Act.put, List.setIfInBounds_toArray, List.set_cons_zero, List.set_cons_succ]
          refine takeD 3 118 (.slice (some ⟨g, off, none⟩) N gc) (by exact rfl) rfl (by kernel_rfl) (by kernel_rfl) (by kernel_rfl) (fun _ _ _ h => h) (Or.inl ⟨by rfl, ?_⟩) (by assumption) ?_
          · intro wq hS
            have c := hS.cell 0 (v := .slice (some ⟨g, off, none⟩) N gc) rfl
            go_simp
          try simp only [Act.put, List.setIfInBounds_toArray, List.set_cons_zero, List.set_cons_succ]
          refine takeD 4 119 (.int .i64 (ii : Int)) (by exact rfl) rfl (by kernel_rfl) (by kernel_rfl) (by kernel_rfl) (fun _ _ _ h => h) (Or.inl ⟨by rfl, ?_⟩) (by assumption) ?_
          · intro wq hS
            go_simp
          try simp only [Act.put, List.setIfInBounds_toArray, List.set_cons_zero, List.set_cons_succ]
          refine takeD 5 120 (.pointer (some ⟨q, 0, none⟩)) (by exact rfl) rfl (by kernel_rfl) (by kernel_rfl) (by kernel_rfl) (fun _ _ _ h => h) (Or.inl ⟨by rfl, ?_⟩) (by assumption) ?_
          · intro wq hS
            go_simp
          try simp only [Act.put, List.setIfInBounds_toArray, List.set_cons_zero, List.set_cons_succ]
          refine takeD 6 121 (.pointer (some ⟨q, 0, none⟩)) (by exact rfl) rfl (by kernel_rfl) (by kernel_rfl) (by kernel_rfl) (fun _ _ _ h => h) (Or.inl ⟨by rfl, ?_⟩) (by assumption) ?_
          · intro wq hS
            go_simp
          try simp only [Act.put, List.setIfInBounds_toArray, List.set_cons_zero, List.set_cons_succ]
          refine takeD 7 122 (.pointer (some ⟨q, 0, none⟩)) (by exact rfl) rfl (by kernel_rfl) (by kernel_rfl) (by kernel_rfl) (fun _ _ _ h => h) (Or.inl ⟨by rfl, ?_⟩) (by assumption) ?_
          · intro wq hS
            go_simp
          try simp only [Act.put, List.setIfInBounds_toArray, List.set_cons_zero, List.set_cons_succ]
          refine takeD 8 123 (.slice (some ⟨g, off, none⟩) N gc) (by exact rfl) rfl (by kernel_rfl) (by kernel_rfl) (by kernel_rfl) (fun _ _ _ h => h) (Or.inl ⟨by rfl, ?_⟩) (by assumption) ?_
          · intro wq hS
            have c := hS.cell 0 (v := .slice (some ⟨g, off, none⟩) N gc) rfl
            go_simp
          try simp only [Act.put, List.setIfInBounds_toArray, List.set_cons_zero, List.set_cons_succ]
          refine takeD 9 124 (.int .i64 (ii : Int)) (by exact rfl) rfl (by kernel_rfl) (by kernel_rfl) (by kernel_rfl) (fun _ _ _ h => h) (Or.inl ⟨by rfl, ?_⟩) (by assumption) ?_
          · intro wq hS
            go_simp
          try simp only [Act.put, List.setIfInBounds_toArray, List.set_cons_zero, List.set_cons_succ]
          refine takeD 10 125 (.slice a5 n5 c5) (by exact rfl) rfl (by kernel_rfl) (by kernel_rfl) (by kernel_rfl) (fun _ _ _ h => h) (Or.inl ⟨by rfl, ?_⟩) (by assumption) ?_
          · intro wq hS
            go_simp
          try simp only [Act.put, List.setIfInBounds_toArray, List.set_cons_zero, List.set_cons_succ]
          refine takeD 11 126 (.pointer (some ⟨q, 0, none⟩)) (by exact rfl) rfl (by kernel_rfl) (by kernel_rfl) (by kernel_rfl) (fun _ _ _ h => h) (Or.inl ⟨by rfl, ?_⟩) (by assumption) ?_
          · intro wq hS
            go_simp
          try simp only [Act.put, List.setIfInBounds_toArray, List.set_cons_zero, List.set_cons_succ]
          refine takeD 12 127 (.pointer (some ⟨q, 0, none⟩)) (by exact rfl) rfl (by kernel_rfl) (by kernel_rfl) (by kernel_rfl) (fun _ _ _ h => h) (Or.inl ⟨by rfl, ?_⟩) (by assumption) ?_
          · intro wq hS
            go_simp
          try simp only [Act.put, List.setIfInBounds_toArray, List.set_cons_zero, List.set_cons_succ]
          refine takeD 13 128 (.pointer (some ⟨q, 0, none⟩)) (by exact rfl) rfl (by kernel_rfl) (by kernel_rfl) (by kernel_rfl) (fun _ _ _ h => h) (Or.inl ⟨by rfl, ?_⟩) (by assumption) ?_
          · intro wq hS
            go_simp
          try simp only [Act.put, List.setIfInBounds_toArray, List.set_cons_zero, List.set_cons_succ]
          refine takeD 14 129 (.slice (some ⟨g, off, none⟩) N gc) (by exact rfl) rfl (by kernel_rfl) (by kernel_rfl) (by kernel_rfl) (fun _ _ _ h => h) (Or.inl ⟨by rfl, ?_⟩) (by assumption) ?_
          · intro wq hS
            have c := hS.cell 0 (v := .slice (some ⟨g, off, none⟩) N gc) rfl
            go_simp
          try simp only [Act.put, List.setIfInBounds_toArray, List.set_cons_zero, List.set_cons_succ]
          refine takeD 15 130 (.int .i64 (ii : Int)) (by exact rfl) rfl (by kernel_rfl) (by kernel_rfl) (by kernel_rfl) (fun _ _ _ h => h) (Or.inl ⟨by rfl, ?_⟩) (by assumption) ?_
          · intro wq hS
            go_simp
          try simp only [Act.put, List.setIfInBounds_toArray, List.set_cons_zero, List.set_cons_succ]
          refine takeD 16 131 (.pointer (some ⟨g, off + ii * 3, none⟩)) (by exact rfl) rfl (by kernel_rfl) (by kernel_rfl) (by kernel_rfl) (fun _ _ _ h => h) (Or.inl ⟨by rfl, ?_⟩) (by assumption) ?_
          · intro wq hS
            go_simp
          try simp only [Act.put, List.setIfInBounds_toArray, List.set_cons_zero, List.set_cons_succ]
          refine takeD 17 132 (.pointer (some ⟨g, off + ii * 3 + 2, none⟩)) (by exact rfl) rfl (by kernel_rfl) (by kernel_rfl) (by kernel_rfl) (fun _ _ _ h => h) (Or.inl ⟨by rfl, ?_⟩) (by assumption) ?_
          · intro wq hS
            go_simp
          try simp only [Act.put, List.setIfInBounds_toArray, List.set_cons_zero, List.set_cons_succ]
          refine wpAnyH_ready (rs := [18]) (by kernel_rfl) (by simp) ?_
          refine AllReadyH.cons (by exact rfl) (fun K hK => ?_) AllReadyH.nil
          have c18 := (bW0.cell (p := ⟨g, off + ii * 3 + 2, none⟩) hbl).trans (HCL.out 2 _ rfl)
          go_simp
          refine hK.out _ _ hHeld (fun hHeld18 => ?_)
          clear hK K c18
          try simp only [Act.put, List.setIfInBounds_toArray, List.set_cons_zero, List.set_cons_succ]
          refine takeD 19 134 (.int .i64 (jj : Int)) (by exact rfl) rfl (by kernel_rfl) (by kernel_rfl) (by kernel_rfl) (fun _ _ _ h => h) (Or.inl ⟨by rfl, ?_⟩) (by assumption) ?_
          · intro wq hS
            go_simp
          try simp only [Act.put, List.setIfInBounds_toArray, List.set_cons_zero, List.set_cons_succ]
          refine wpAnyH_ready (rs := [20]) (by kernel_rfl) (by simp) ?_
          refine AllReadyH.cons (by exact rfl) (fun K hK => ?_) AllReadyH.nil
          go_simp
          refine (flags_ok jj (by omega) true W0).mono ?_
          rintro e W2 ⟨⟨kv, rfl, hN2⟩, c2⟩
          obtain ⟨g9, hkv, hg9, hBl, hSf⟩ := hN2.in (by rw [List.length_replicate]; omega)
          rw [List.length_replicate] at hkv
          subst hkv
          go_wp2_with fail
          have bW2 : Below wo.heap.size wo W2 := bW0.trans (c2.mono bW0.size)
          have oW2 : OwnB W2 wo.heap.size (.slice a5 n5 c5) zb := oW0.stp c2
          have hHeld2 : VA W2 q (y3.cells (.slice (some ⟨g, off, none⟩) N gc)) 66 := VA.step hHeld c2
          refine hK.out _ _ hHeld2 (fun _ => ?_)
          clear hK K
          try simp only [Act.put, List.setIfInBounds_toArray, List.set_cons_zero, List.set_cons_succ]
          refine takeD 21 136 (.pointer (some ⟨g, off + ii * 3, none⟩)) (by exact rfl) rfl (by kernel_rfl) (by kernel_rfl) (by kernel_rfl) (fun _ _ _ h => h) (Or.inl ⟨by rfl, ?_⟩) (by assumption) ?_
          · intro wq hS
            go_simp
          try simp only [Act.put, List.setIfInBounds_toArray, List.set_cons_zero, List.set_cons_succ]
          refine takeD 22 137 (.pointer (some ⟨g, off + ii * 3 + 1, none⟩)) (by exact rfl) rfl (by kernel_rfl) (by kernel_rfl) (by kernel_rfl) (fun _ _ _ h => h) (Or.inl ⟨by rfl, ?_⟩) (by assumption) ?_
          · intro wq hS
            go_simp
          try simp only [Act.put, List.setIfInBounds_toArray, List.set_cons_zero, List.set_cons_succ]
          have RW0 : RD wo B q (.slice (some ⟨g, 0, none⟩) N gc) { y3 with fs := Fi } := by have := HRD.out; rw [HOF.out] at this; exact this
          have RW2 := RW0.step bW2
          have k1 := (bW2.cell (p := ⟨g, off + ii * 3 + 1, none⟩) hbl).trans (HCL.out 1 _ rfl)
          have k2 := (bW2.cell (p := ⟨g, off + ii * 3 + 2, none⟩) hbl).trans (HCL.out 2 _ rfl)
          have k2' : (W2.setCell ⟨g, off + ii * 3 + 1, none⟩ (.slice a5 n5 c5)).cell? ⟨g, off + ii * 3 + 2, none⟩ = some (.slice fa2 jj fc2) := (World.cell?_setCell_other W2 _ _ _ (by intro e; injection e with _ e _; omega)).trans k2
          have m1 := RW2.row.freeR (off + ii * 3 + 1)
          have m2 := RW2.row.freeR (off + ii * 3 + 2)
          have hgq : q ≠ g := fun e => by
            rcases RW2.row.own.2 with ⟨e2, _⟩ | ⟨g', cap', cur, e2, _, hg', _⟩ <;> cases e2
            have h1 := RW2.va.blk
            rw [e, hg'] at h1
            cases h1
          refine wpAnyH_ready (rs := [23]) (by kernel_rfl) (by simp) ?_
          refine AllReadyH.cons (by exact rfl) (fun K hK => ?_) AllReadyH.nil
          go_simp
          have hHeld3 := hHeld2.set_other hgq (off + ii * 3 + 1) (.slice a5 n5 c5)
          refine hK.out _ _ hHeld3 (fun _ => ?_)
          clear hK K
          try simp only [Act.put, List.setIfInBounds_toArray, List.set_cons_zero, List.set_cons_succ]
          refine takeD 24 138 (.pointer (some ⟨g, off + ii * 3, none⟩)) (by exact rfl) rfl (by kernel_rfl) (by kernel_rfl) (by kernel_rfl) (fun _ _ _ h => h) (Or.inl ⟨by rfl, ?_⟩) (by assumption) ?_
          · intro wq hS
            go_simp
          try simp only [Act.put, List.setIfInBounds_toArray, List.set_cons_zero, List.set_cons_succ]
          refine takeD 25 139 (.pointer (some ⟨g, off + ii * 3 + 2, none⟩)) (by exact rfl) rfl (by kernel_rfl) (by kernel_rfl) (by kernel_rfl) (fun _ _ _ h => h) (Or.inl ⟨by rfl, ?_⟩) (by assumption) ?_
          · intro wq hS
            go_simp
          try simp only [Act.put, List.setIfInBounds_toArray, List.set_cons_zero, List.set_cons_succ]
          refine wpAnyH_ready (rs := [26]) (by kernel_rfl) (by simp) ?_
          refine AllReadyH.cons (by exact rfl) (fun K hK => ?_) AllReadyH.nil
          go_simp
          have hHeld4 := hHeld3.set_other hgq (off + ii * 3 + 2) (.slice (some ⟨g9, 0, none⟩) jj jj)
          refine hK.out _ _ hHeld4 (fun _ => ?_)
          clear hK K
          refine wpAnyH_done (by kernel_rfl) ?_ _
          refine NoPanic.normal ?_
          obtain ⟨f', hf'⟩ : ∃ f' : RF, f' = ⟨nm, a5, c5, zb, some ⟨g9, 0, none⟩, jj, List.replicate jj true⟩ := ⟨_, rfl⟩
          have hbv : f'.bv = .slice a5 n5 c5 := by rw [hf']; show Value.slice a5 zb.length c5 = _; rw [HZL.out]
          have hkv : f'.kv = .slice (some ⟨g9, 0, none⟩) jj jj := by rw [hf']; show Value.slice _ (List.replicate jj true).length jj = _; rw [List.length_replicate]
          have hil : ii < Fi.length := by rw [HFL.out]; exact hlt
          have hxe : Fi[ii] = ⟨nm, ba, bc, bs, fa2, fc2, fl⟩ := by have h1 := HXQ.out; rw [List.getElem?_eq_getElem hil] at h1; exact Option.some.inj h1
          have hRf' : Rf W2 f' := by
            refine ⟨by rw [hbv]; have := oW2.bs; rw [hf']; exact this, by rw [hbv]; exact oW2.safeX, by rw [hkv]; rw [hf']; exact hBl, by rw [hkv]; exact hSf, ?_, fun e => (by rw [hf'] at e; cases e), by rw [hf']; exact HRF.out.nm⟩
            rw [hf']
            show zb.length = 32 * (List.replicate jj true).length
            rw [List.length_replicate, HZL.out, HN5.out, HLN.out]
          have hfin := RW0.setf ii hil f' bW2 (by rw [hf', hxe]) (by rw [hf', hxe]; show (List.replicate jj true).length = fl.length; rw [List.length_replicate, HLX.out]) hRf'
          rw [hbv, hkv] at hfin
          have HFIN : Hid (∃ W4, W4 = (W2.setCell ⟨g, off + ii * 3 + 1, none⟩ (.slice a5 n5 c5)).setCell ⟨g, off + ii * 3 + 2, none⟩ (.slice (some ⟨g9, 0, none⟩) jj jj) ∧ RD W4 B q (.slice (some ⟨g, off, none⟩) N gc) { y3 with fs := Fi.set ii f' } ∧ KeR wo W4 ∧ Below B wo W4) := by
            refine ⟨_, rfl, ?_⟩
            rw [HOF.out]
            simp only [Nat.zero_add]
            exact hfin
          obtain ⟨W4, hW4, r4, ke4, be4⟩ := HFIN.out
          rw [← hW4]
          have HR4 : Hid (RD W4 B q (.slice (some ⟨g, off, none⟩) N gc) { y3 with fs := Fi.set ii f' }) := r4
          have HK4 : Hid (KeR w W4) := HK.out.trans ke4
          have HB4 : Hid (Below B w W4) := HB.out.trans be4
          have HF4 : Hid (VA W4 w.heap.size [.bool dn, .slice ka L kc] 34) := HFB.out.ker ke4 (by unfold Rt; decide)
          have HRA : Hid (ra (Fi.set ii f') = (rAt ks (ra fs1) (ii + 1)).1 ++ (ra fs1).drop (ii + 1)) := by
            show _ = _
            have h1 : ra (Fi.set ii f') = (ra Fi).set ii (nm, zb, List.replicate jj true) := by unfold ra; rw [List.map_set, hf']
            rw [h1, HFI.out, rAt, HT3.out, List.set_append_right _ _ (by rw [rAt_len _ _ _ (by rw [HRL.out]; omega)]; exact Nat.le_refl _), rAt_len _ _ _ (by rw [HRL.out]; omega), Nat.sub_self, List.drop_eq_getElem_cons (by rw [HRL.out]; omega), List.set_cons_zero, List.append_assoc, ← HKK.out]
            show _ ++ _ = _ ++ ((nm, (zAt ks fl bs kk fl.length).1, List.replicate fl.length true) :: _)
            rw [HLX.out, HZB.out]
            rfl
          have HKN : Hid (kj = (rAt ks (ra fs1) (ii + 1)).2) := by
            show _ = _
            rw [rAt, HT3.out, ← HKK.out]
            show kj = (zAt ks fl bs kk fl.length).2
            rw [HLX.out]
            exact HKJ.out
          have HFL2 : Hid ((Fi.set ii f').length = N) := (show (Fi.set ii f').length = N by rw [List.length_set]; exact HFL.out)
          clear hHeld hHeld2 hHeld3 hHeld4 hHeld18 bW0 bW2 oW0 oW2 c2 hN2 hBl hSf RW0 RW2 k1 k2 k2' m1 m2 hfin hRf' hxe hbv hkv hW4 r4 ke4 be4 HFIN
          go_wp2_with fail
          go_roundw
          case rel => exact ⟨ii + 1, kj, Fi.set ii f', by omega, by simp, rfl, HKN.out, HFL2.out, HRA.out, HR4.out, HK4.out, HB4.out, HF4.out⟩
          case measure => simp [intOf]; omega
    · obtain rfl : ii = N := by omega
      go_wp2_with fail
      go_ret
      refine ⟨rfl, { y3 with fs := Fi }, ?_, ⟨_, HRD.out⟩, HK.out, HB.out⟩
      have e1 := HFI.out
      rw [List.drop_of_length_le (by rw [HRL.out]; exact Nat.le_refl _), List.append_nil] at e1
      unfold rs rres
      rw [HY3.out, HY1.out]
      show RS.mk (ra Fi) _ _ _ _ _ _ _ _ = RS.mk _ _ _ _ _ _ _ _ _
      rw [e1, ← HRL.out, HFS.out]
      rfl
end Go.Proofs.Ytakgkpiicigihaa
