/- texts of the model: Mrj Mrk -/
import Derived.Test.YtjkiplndbcmmbaaGreatDoorX42
import Derived.Test.YtjkiplndbcmmbaaGreatDoorX29
import Derived.Test.YtjkiplndbcmmbaaGreatDoorX14
import Derived.Test.YtjkiplndbcmmbaaGreatDoorX43
import Derived.Test.YtjkiplndbcmmbaaGreatDoorX44
set_option linter.unusedVariables false
set_option linter.unusedSimpArgs false
set_option maxHeartbeats 16000000
namespace Go.Proofs.YtjkiplndbcmmbaaGreatDoor
open Go.RowKit Go.Maps
theorem tY (z : Int) : dhi z * 18446744073709551616 + dlo z = z := by unfold dhi dlo; omega
theorem sW (c u z s : Int) : (⟨c, u, dhi z, dlo z, s⟩ : Ln).cf = z := tY z
theorem sZ (c u z s : Int) : (⟨c, u, dhi z, dlo z, s⟩ : Ln).un = z * (10 : Int) ^ (12 - s.toNat) := by
 unfold Ln.un
 rw [sW]
theorem sY {c u z s : Int} (h1 : 1 ≤ c ∧ c ≤ 8) (h2 : 0 ≤ u ∧ u ≤ 3) : (⟨c, u, dhi z, dlo z, s⟩ : Ln).pl = true := by
 unfold Ln.pl wi
 simp only [Bool.and_eq_true, decide_eq_true_eq]
 exact ⟨h1, h2⟩
theorem sX {c u z s : Int} (h1 : 0 ≤ s ∧ s ≤ 12) (h2 : -100000000000000000000 ≤ z ∧ z ≤ 100000000000000000000 ∨ s = 12 ∧ -10000000000000000000000000 ≤ z ∧ z ≤ 10000000000000000000000000) : (⟨c, u, dhi z, dlo z, s⟩ : Ln).ok = true := by
 unfold Ln.ok
 rw [sW]
 unfold far M20
 simp only [Bool.and_eq_true, Bool.not_eq_true', decide_eq_true_eq, decide_eq_false_iff_not]
 refine ⟨h1, ?_⟩
 rcases h2 with h2 | ⟨rfl, h2⟩
 ·have hp : (1 : Int) ≤ (10 : Int) ^ s.toNat := by
   have : (0 : Int) < (10 : Int) ^ s.toNat := Int.pow_pos (by decide)
   omega
  have : (100000000000000000000 : Int) * 1 ≤ 100000000000000000000 * (10 : Int) ^ s.toNat := Int.mul_le_mul_of_nonneg_left hp (by decide)
  omega
 ·rw [show (12 : Int).toNat = 12 from rfl]
  omega
theorem pE {b : Int → Int → Int} {ls : List Ln} (h1 : ∀ x ∈ ls, x.pl = true) (h2 : ls.length ≤ 16) (h3 : ∀ x ∈ ls, x.ok = true) (h4 : ∀ c u, -1000000000000000000000000000000000000 ≤ b c u + sat ls c u ∧ b c u + sat ls c u ≤ 1000000000000000000000000000000000000) (h5 : ∀ u, sau ls u = 0) : perr b ls = 0 := by
 have hc : cherr ls = 0 := by
  unfold cherr
  rw [if_neg (by
   rw [List.any_eq_true]
   rintro ⟨x, hx, hn⟩
   rw [h1 x hx] at hn
   cases hn), if_neg (by omega), if_neg (by
   rw [List.any_eq_true]
   rintro ⟨x, hx, hn⟩
   rw [h3 x hx] at hn
   cases hn)]
 have hr : rbad b ls = false := by
  unfold rbad
  rw [List.any_eq_false]
  intro a ha
  unfold out36 M36
  simp only [decide_eq_true_eq]
  have := h4 a.1 a.2
  omega
 have hb : bal ls = true := by
  unfold bal
  simp [h5]
 unfold perr
 rw [if_neg (by rw [hc]; simp), hr, hb]
 rfl
theorem vY {b : Int → Int → Int} {ls : List Ln} (h : perr b ls = 0) : pst b ls = fun c u => b c u + sat ls c u := by
 unfold pst
 rw [if_pos h]
theorem my (cur d c n x u : Int) : sat (entL cur d c n) x u = (if d = x ∧ cur = u then n * 1000000000000 else 0) + (if c = x ∧ cur = u then -n * 1000000000000 else 0) := by
 unfold sat entL
 simp only [List.map_cons, List.map_nil, List.sum_cons, List.sum_nil, sZ]
 rw [show (10 : Int) ^ (12 - (0 : Int).toNat) = 1000000000000 from by decide]
 omega
theorem pI {b : Int → Int → Int} {cur d c n : Int} (hd : 1 ≤ d ∧ d ≤ 8) (hc : 1 ≤ c ∧ c ≤ 8) (hu : 0 ≤ cur ∧ cur ≤ 3) (hn : -10000000000000 ≤ n ∧ n ≤ 10000000000000) (hb : ∀ x u, -100000000000000000000000000000000000 ≤ b x u ∧ b x u ≤ 100000000000000000000000000000000000) : pstB b cur d c n = fun x u => b x u + ((if d = x ∧ cur = u then n * 1000000000000 else 0) + (if c = x ∧ cur = u then -n * 1000000000000 else 0)) := by
 unfold pstB
 by_cases h0 : n = 0
 ·rw [if_pos h0]
  subst h0
  funext x u
  simp
 ·rw [if_neg h0]
  have hp : perr b (entL cur d c n) = 0 := by
   refine pE (fun x hx => ?_) (by rw [l8]; decide) (fun x hx => ?_) (fun x u => ?_) (fun u => ?_)
   ·unfold entL at hx
    simp only [List.mem_cons, List.not_mem_nil, or_false] at hx
    rcases hx with rfl | rfl
    ·exact sY hd hu
    ·exact sY hc hu
   ·unfold entL at hx
    simp only [List.mem_cons, List.not_mem_nil, or_false] at hx
    rcases hx with rfl | rfl
    ·exact sX (by decide) (Or.inl (by omega))
    ·exact sX (by decide) (Or.inl (by omega))
   ·rw [my]
    have := hb x u
    split <;> split <;> omega
   ·unfold sau entL
    simp only [List.map_cons, List.map_nil, List.sum_cons, List.sum_nil, sZ]
    rw [show (10 : Int) ^ (12 - (0 : Int).toNat) = 1000000000000 from by decide]
    split <;> omega
  rw [vY hp]
  funext x u
  rw [my]
theorem mi : (Tryz.prog.info? 91).map (·.size) = some 5 := by kernel_rfl
theorem ry (x : Ln) : ∀ v ∈ x.enc, v.oneCell' = true := by
 intro v hv
 simp [Ln.enc] at hv
 rcases hv with rfl | rfl | rfl | rfl | rfl <;> rfl
def balL (ls : List Ln) (c u : Int) : List Value := match ls.find? (fun x => decide (x.code = c ∧ x.cur = u)) with
 | some x => [.int .i64 x.h, .int .u64 x.l, .int .i64 x.s]
 | none => [.int .i64 0, .int .u64 0, .int .i64 12]
theorem trl_mem {b : Int → Int → Int} {n : Nat} {x : Ln} : x ∈ trl b n ↔ ∃ a ∈ accs n, b a.1 a.2 ≠ 0 ∧ x = lnOf a.1 a.2 (b a.1 a.2) := by
 unfold trl
 rw [List.mem_map]
 constructor
 ·rintro ⟨a, ha, rfl⟩
  rw [List.mem_filter] at ha
  exact ⟨a, ha.1, by simpa using ha.2, rfl⟩
 ·rintro ⟨a, ha, hn, rfl⟩
  exact ⟨a, List.mem_filter.2 ⟨ha, by simpa using hn⟩, rfl⟩
theorem od (b : Int → Int → Int) {c u : Int} (hv : Va c u) : balL (trl b 32) c u = dcs (b c u) 12 := by
 unfold balL
 cases h : (trl b 32).find? (fun x => decide (x.code = c ∧ x.cur = u)) with
 | none =>
  have hn := List.find?_eq_none.1 h
  have hz : b c u = 0 := by
   refine Classical.not_not.1 (fun k => ?_)
   obtain ⟨i, hi, hai⟩ := js hv
   have hm : lnOf c u (b c u) ∈ trl b 32 := trl_mem.2 ⟨(c, u), List.mem_of_getElem? (by rw [dJ hi, hai]), k, rfl⟩
   exact hn _ hm (by simp [lnOf])
  rw [hz]
  rfl
 | some x =>
  have h1 := List.find?_some h
  have h2 := List.mem_of_find?_eq_some h
  obtain ⟨a, _, _, rfl⟩ := trl_mem.1 h2
  simp only [decide_eq_true_eq] at h1
  obtain ⟨e1, e2⟩ := h1
  have e1 : a.1 = c := e1
  have e2 : a.2 = u := e2
  rw [e1, e2]
  rfl
theorem sM {b : Int → Int → Int} (h : ∀ c u, b c u = 0) : trl b 32 = [] := by
 rw [List.eq_nil_iff_forall_not_mem]
 intro x hx
 obtain ⟨a, _, hn, _⟩ := trl_mem.1 hx
 exact hn (h _ _)
set_option maxRecDepth 100000 in
theorem jQ (v : Value) (ls : List Ln) (w : World) (h : Sl LN w v ls) (c u : Int) :
  Calls Tryz.prog 16 #[v, .int .i64 c, .int .i64 u] w fun r w' => r = .returned (.agg (balL ls c u).toArray) ∧ Below w.heap.size w w' := by
 obtain ⟨N, hN⟩ : ∃ N, N = ls.length := ⟨_, rfl⟩
 obtain ⟨va, vc, rfl, h1, h2, _⟩ := h.form
 have HN : Hid (N = ls.length) := hN
 have HS := hI_ h
 rw [← hN] at h1 ⊢
 have b0 := (Below.refl w.heap.size w).alloc (Nat.le_refl _) (.cells #[.int .i64 0, .int .u64 0, .int .i64 0] 44)
 have HR_0 := hI_ (aa w zdl 44)
 have BB_0 := hI_ b0
 clear b0 h hN
 go_enter Tryz.func16, Tryz.ntmps16
 go_wp2_with fail
 go_loopw [11] (fun i wr => ∃ k : Nat, k ≤ N ∧ i = .int .i64 (k : Int) ∧ Hid (∀ j x, j < k → ls[j]? = some x → ¬ (x.code = c ∧ x.cur = u)) ∧ Hid (VA wr w.heap.size zdl 44) ∧ Hid (Below w.heap.size w wr)) (fun i _ => N - (intOf i).toNat)
 case atStart => exact ⟨0, by omega, rfl, fun j x hj => by omega, HR_0.out, BB_0.out⟩
 case round =>
  obtain ⟨k, hk, rfl, HA, HR, HB⟩ := hrel
  by_cases hkn : k = N
  ·have hz : balL ls c u = [.int .i64 0, .int .u64 0, .int .i64 12] := by
    have e : ls.find? (fun x => decide (x.code = c ∧ x.cur = u)) = none := by
     rw [List.find?_eq_none]
     intro x hx
     obtain ⟨j, hj⟩ := List.getElem?_of_mem hx
     have hl := (List.getElem?_eq_some_iff.1 hj).1
     have := HA.out j x (by have := HN.out; omega) hj
     simpa using this
    unfold balL
    rw [e]
   have HZ := hI_ hz
   clear hz
   subst hkn
   go_wp2_with (refine stA rfl 44 _ _ rfl w.heap.size (by rfl) zdl [.int .i64 0, .int .u64 0, .int .i64 12] (by rfl) 44 HR.out fx rfl (by decide) ?_; intro wf vf uf)
   have hld := run_loadVar_row (P := Tryz.prog) wf w.heap.size 44 44 _ (0, 0) _ vf.blk Tryz.underlying44 rfl fx
   exact bodyPost_ret (v := .agg #[.int .i64 0, .int .u64 0, .int .i64 12]) (by simp [results, Tryz.results16, asAddr, hld, Act.put]) rfl ⟨by rw [HZ.out], uf.bel HB.out (Nat.le_refl _)⟩
  have hk' : k < N := by omega
  obtain ⟨x, hx⟩ : ∃ x, ls[k]? = some x := ⟨_, List.getElem?_eq_getElem (by have := HN.out; omega)⟩
  have d1 : (0 : Int) ≤ (k : Int) := by omega
  have d2 : (k : Int) < (N : Int) := by omega
  have HS' := HS.out.step HB.out
  rw [← HN.out] at HS'
  obtain ⟨bb, off, ea, hbb, hcell⟩ := HS'.at k x hx
  subst ea
  have HC := hI_ hcell
  have HX := hI_ hx
  have bA := (Below.refl wr.heap.size wr).alloc (Nat.le_refl _) (.cells #[.int .i64 0, .int .i64 0, .int .i64 0, .int .u64 0, .int .i64 0] 91)
  have HV := hI_ (aa wr [.int .i64 0, .int .i64 0, .int .i64 0, .int .u64 0, .int .i64 0] 91)
  have HR_1 := hI_ (HR.out.step bA)
  have BB_1 := hI_ (HB.out.trans (bA.mono HB.out.size))
  have s1 := HB.out.size
  have l1 := HR.out.lt
  clear hx hcell hbb HS' bA
  go_upto_region 4 with (first | (refine wpList_load_mid rfl 91 _ rfl bb (off + k * 5) (by rfl) x.enc _ (fun j u hj => HC.out j u hj) Tryz.underlying91 rfl mi ?_) | (refine stA rfl 91 _ _ rfl wr.heap.size (by rfl) [.int .i64 0, .int .i64 0, .int .i64 0, .int .u64 0, .int .i64 0] x.enc (by rfl) 91 HV.out mi rfl (ry x) ?_; intro w2 v2 u2))
  have HV_2 := hI_ v2
  have HR_2 : Hid (VA w2 w.heap.size zdl 44) := HR_1.out.upd u2 (by omega)
  have BB_2 : Hid (Below w.heap.size w w2) := u2.bel BB_1.out s1
  have y0 := HV_2.out.cell 0 (v := .int .i64 x.code) rfl
  have y1 := HV_2.out.cell 1 (v := .int .i64 x.cur) rfl
  have y2 := HV_2.out.cell 2 (v := .int .i64 x.h) rfl
  have y3 := HV_2.out.cell 3 (v := .int .u64 x.l) rfl
  have y4 := HV_2.out.cell 4 (v := .int .i64 x.s) rfl
  clear v2 u2 HV HR_1 BB_1 HC HR HB
  by_cases e0 : x.code = c
  ·have t0 : (x.code == c) = true := by simpa using e0
   by_cases e1 : x.cur = u
   ·have t1 : (x.cur == u) = true := by simpa using e1
    have hz : balL ls c u = [.int .i64 x.h, .int .u64 x.l, .int .i64 x.s] := by
     have e : ls.find? (fun x => decide (x.code = c ∧ x.cur = u)) = some x := by
      have hl := (List.getElem?_eq_some_iff.1 HX.out).1
      rw [List.find?_eq_some_iff_getElem]
      refine ⟨by simp [e0, e1], k, hl, (List.getElem?_eq_some_iff.1 HX.out).2, fun j hj => ?_⟩
      have := HA.out j _ hj (List.getElem?_eq_getElem (by omega))
      simp only [Bool.not_eq_true', decide_eq_false_iff_not]
      exact this
     unfold balL
     rw [e]
    have HZ := hI_ hz
    clear hz e0 e1
    go_wp2_with (refine stA rfl 44 _ _ rfl w.heap.size (by rfl) zdl [.int .i64 x.h, .int .u64 x.l, .int .i64 x.s] (by rfl) 44 HR_2.out fx rfl (by intro v hv; simp at hv; rcases hv with rfl | rfl | rfl <;> rfl) ?_; intro wf vf uf)
    have hld := run_loadVar_row (P := Tryz.prog) wf w.heap.size 44 44 _ (0, 0) _ vf.blk Tryz.underlying44 rfl fx
    exact bodyPost_ret (v := .agg #[.int .i64 x.h, .int .u64 x.l, .int .i64 x.s]) (by simp [results, Tryz.results16, asAddr, hld, Act.put]) rfl ⟨by rw [HZ.out], uf.bel BB_2.out (Nat.le_refl _)⟩
   ·have t1 : (x.cur == u) = false := by simpa using e1
    have HE : Hid (¬ (x.code = c ∧ x.cur = u)) := fun h => e1 h.2
    clear e0 e1
    go_wp2_with fail
    exact ⟨⟨k + 1, by omega, by go_num, fun j z hj hz => by
     by_cases hjk : j = k
     ·subst hjk
      rw [HX.out] at hz
      cases hz
      exact HE.out
     ·exact HA.out j z (by omega) hz, HR_2.out, BB_2.out⟩, by simp [intOf]; omega⟩
  ·have t0 : (x.code == c) = false := by simpa using e0
   have HE : Hid (¬ (x.code = c ∧ x.cur = u)) := fun h => e0 h.1
   clear e0
   go_wp2_with fail
   exact ⟨⟨k + 1, by omega, by go_num, fun j z hj hz => by
    by_cases hjk : j = k
    ·subst hjk
     rw [HX.out] at hz
     cases hz
     exact HE.out
    ·exact HA.out j z (by omega) hz, HR_2.out, BB_2.out⟩, by simp [intOf]; omega⟩
theorem dz (z : Int) : cut0 (z * 1000000000000) 12 = z := by
 unfold cut0 sv
 rw [show (10 : Nat) ^ 12 = 1000000000000 from by decide]
 split <;> rename_i h <;> simp only [decide_eq_true_eq] at h <;> omega
theorem rO (z : Int) (w : World) (h1 : -1000000000000000 ≤ z) (h2 : z ≤ 1000000000000000) :
  Calls Tryz.prog 15 #[.agg (dcs (z * 1000000000000) 12).toArray] w fun e w' => e = .returned (.tuple #[.int .i64 z, .int .i64 0]) ∧ Below w.heap.size w w' := by
 have h := mj (z * 1000000000000) 12 w ⟨by unfold M127; omega, by unfold M127; omega⟩ (by decide) (by rw [dz]; unfold tv; rw [show max 0 12 - 0 = 12 from rfl, show max 0 12 - 12 = 0 from rfl, show (10 : Int) ^ 12 = 1000000000000 from by decide]; omega) (by rw [dz]; omega) (by rw [dz]; omega)
 rw [dz] at h
 exact h
set_option maxRecDepth 100000 in
theorem nB (w : World) (B : Nat) (F : FB) (M : PM) (h : MD w B F M) :
  Calls Tryz.prog 17 #[.pointer (some ⟨F.pm, 0, none⟩)] w fun e w' => (∃ v, e = .returned v ∧ Own LN w' w.heap.size v (trl M.b 32)) ∧ Below w.heap.size w w' := by
 have c4 := h.va.cell 4 (v := .pointer (some ⟨F.pl, 0, none⟩)) rfl
 have HT := hI_ (fun (_ : Unit) => qt F.pl F.ml M.b M.n w h.led)
 clear h
 go_enter Tryz.func17, Tryz.ntmps17
 go_wp2_with fail
 refine (HT.out ()).mono ?_
 rintro e w1 ⟨⟨v, rfl, o⟩, b⟩
 go_wp2_with fail
 go_ret
 exact ⟨⟨v, rfl, o⟩, b⟩
theorem jy {w : World} {B p : Nat} {M : PM} (h : BK w B p M) :
  Calls Tryz.prog 17 #[.pointer (some ⟨p, 0, none⟩)] w fun r w' => (∃ v, r = .returned v ∧ Own LN w' w.heap.size v (trl M.b 32)) ∧ BK w' B p M ∧ KT B w w' := by
 obtain ⟨F, hM, rfl⟩ := h.md
 refine (nB w B F M hM).mono ?_
 rintro r w' ⟨h1, b⟩
 exact ⟨h1, h.step b, KT.of b h.low⟩
def la2 (z : Int) : PA := ⟨2, 2, 0, 2, true, z, 0, 0, []⟩
def la1 (z : Int) : PA := ⟨1, 1, 0, 1, true, z, 0, 0, []⟩
def lbal (z : Int) : Int → Int → Int := fun c u => (if 3 = c ∧ 0 = u then z * 1000000000000 else 0) + (if 2 = c ∧ 0 = u then -z * 1000000000000 else 0)
theorem lbal_0 : lbal 0 = fun _ _ => 0 := by
 funext c u
 unfold lbal
 simp
theorem iE {z n : Int} (h1 : -100000000000 ≤ z ∧ z ≤ 100000000000) (h2 : -10000000000000 ≤ n ∧ n ≤ 10000000000000) : pstB (lbal z) 0 3 2 n = lbal (z + n) := by
 rw [pI (by decide) (by decide) (by decide) h2 (fun x u => by unfold lbal; split <;> split <;> omega)]
 funext x u
 unfold lbal
 split <;> split <;> omega
theorem rL (z : Int) : lbal z 3 0 = z * 1000000000000 := by unfold lbal; simp
theorem gQ {M : PM} {id k l : Int} {a : PA} (h : acctO M id = some a) (ho : a.opn = true) (hk : a.kind ≠ k) (hk0 : k ≠ 0) : namedK M l id k = wth l 11 := by
 unfold namedK
 rw [h]
 simp [ho, hk, hk0, whn]
theorem lA {M : PM} {id k l : Int} {a : PA} (h : acctO M id = some a) (ho : a.opn = false) (hk : a.kind = k) : namedK M l id k = wth l 14 := by
 unfold namedK
 rw [h]
 simp [ho, hk, whn]
theorem dF {a : PA} {n : Int} (h0 : -10000000000000 ≤ a.bal + n) (h : a.bal + n ≤ 10000000000000) : roomO (some a) n = false := fl h0 h
theorem aQ {n g : Int} (h1 : 1 ≤ n) (h2 : n ≤ g) : beyond n g = false := beyond_0.2 ⟨h1, h2⟩
theorem kR {n g : Int} (h : g < n) : beyond n g = true := by
 cases e : beyond n g
 ·have := (beyond_0.1 e).2; omega
 ·rfl
theorem gL {M : PM} {a : PA} {n : Int} (h : n ≤ (ver M a.prod).lim) : limO M (some a) n = false := by unfold limO; rw [decide_eq_false_iff_not]; omega
theorem mm {M : PM} {a : PA} {n : Int} (h : (ver M a.prod).lim < n) : limO M (some a) n = true := by unfold limO; rw [decide_eq_true_iff]; exact h
theorem rN {a : PA} {n : Int} (h : n ≤ a.bal) : lessO (some a) n = false := by unfold lessO; rw [decide_eq_false_iff_not]; omega
theorem p9 {a : PA} {n : Int} (h : a.bal < n) : lessO (some a) n = true := by unfold lessO; rw [decide_eq_true_iff]; exact h
theorem wl (l e : Int) : whn l false e = l := rfl
structure SL (M : PM) (l z s : Int) (a2 : PA) : Prop where
 s3 : S3 M 0 l (la1 z) a2 (AO 3 1 1) s
 b : M.b = lbal z
theorem vW (op : Nat) (ho : op ≤ 255) {a b c : Int} (h1 : I64 a) (h2 : I64 b) (h3 : I64 c) : (mkE op [a, b, c]).ok := dQ ho (qO h1 h2 h3)
theorem nF (op : Nat) (ho : op ≤ 255) {a b c d : Int} (h1 : I64 a) (h2 : I64 b) (h3 : I64 c) (h4 : I64 d) : (mkE op [a, b, c, d]).ok := dQ ho (vl h1 h2 h3 h4)
theorem uS {M : PM} {l s m : Int} (h : SL M l 0 s (la2 0)) (_ : (1 : Int) = 1) (h1 : 0 ≤ l) (h2 : l ≤ 10000000) (h3 : 1 ≤ m) (h4 : m ≤ 480) : askL M 0 (mkE 9 [2, 1, l + 1, m]) = 12 := by
 show lendL M 0 2 1 (l + 1) m = 12
 unfold lendL
 rw [aQ (by omega) (by omega), aQ h3 h4, wl, wl, aE (k := 2) h.s3.a2 rfl rfl, aE (k := 1) h.s3.a1 rfl rfl, h.s3.a2, h.s3.a1, dF (by show (_ : Int) ≤ 0 + (l + 1); omega) (by show (0 : Int) + (l + 1) ≤ _; omega), wl, mm (by show (ver M 2).lim < l + 1; rw [h.s3.v2]; omega)]
 rfl
theorem uR {M : PM} {l s n m : Int} (h : SL M l 0 s (la2 0)) (_ : (1 : Int) = 1) (h1 : 1 ≤ n) (hl : n ≤ l) (h2 : n ≤ 10000000) (h3 : 1 ≤ m) (h4 : m ≤ 480) : askL M 0 (mkE 9 [2, 3, n, m]) = 10 := by
 show lendL M 0 2 3 n m = 10
 unfold lendL
 rw [aQ (by omega) (by omega), aQ h3 h4, wl, wl, aE (k := 2) h.s3.a2 rfl rfl, aE (k := 1) h.s3.a3 rfl rfl, h.s3.a2, h.s3.a3, dF (by show (_ : Int) ≤ 0 + n; omega) (by show (0 : Int) + n ≤ _; omega), wl, gL (by show n ≤ (ver M 2).lim; rw [h.s3.v2]; exact hl)]
 rfl
theorem sE {M : PM} {l s n m : Int} (h : SL M l 0 s (la2 0)) (h1 : 1 ≤ n) (h2 : n ≤ 10000000) (h3 : 1 ≤ m) (h4 : m ≤ 480) : askL M 0 (mkE 9 [1, 2, n, m]) = 11 := by
 show lendL M 0 1 2 n m = 11
 unfold lendL
 rw [aQ (by omega) (by omega), aQ h3 h4, wl, wl, gQ (k := 2) h.s3.a1 rfl (by decide) (by decide), gQ (k := 1) h.s3.a2 rfl (by decide) (by decide), h.s3.a2, h.s3.a1, dF (by show (_ : Int) ≤ 0 + n; omega) (by show (0 : Int) + n ≤ _; omega), wl, mm (by show (ver M 1).lim < n; rw [h.s3.v1]; omega)]
 rfl
theorem uP {M : PM} {l s n : Int} (h : SL M l 0 s (la2 0)) (h1 : 1 ≤ n) (hl : n ≤ l) (h2 : n ≤ 10000000) : askL M 0 (mkE 9 [2, 1, n, 481]) = 1 := by
 show lendL M 0 2 1 n 481 = 1
 unfold lendL
 rw [aQ (by omega) (by omega), kR (by decide), wl, aE (k := 2) h.s3.a2 rfl rfl, aE (k := 1) h.s3.a1 rfl rfl, h.s3.a2, h.s3.a1, dF (by show (_ : Int) ≤ 0 + n; omega) (by show (0 : Int) + n ≤ _; omega), wl, gL (by show n ≤ (ver M 2).lim; rw [h.s3.v2]; exact hl)]
 rfl
theorem ug {M : PM} {l s n m : Int} (h : SL M l 0 s (la2 0)) (h1 : 1 ≤ n) (hl : n ≤ l) (h2 : n ≤ 10000000) (h3 : 1 ≤ m) (h4 : m ≤ 480) : Good M (mkE 9 [2, 1, n, m]) :=
 ck h.s3.keys h.s3.uw (by decide) (vl ⟨by decide, by decide⟩ ⟨by decide, by decide⟩ ⟨by omega, by omega⟩ ⟨by omega, by omega⟩) (by show 4 ≤ ct.getD 9 0; decide) (by
  show lendL M 0 2 1 n m = 0
  unfold lendL
  rw [aQ (by omega) (by omega), aQ h3 h4, wl, wl, aE (k := 2) h.s3.a2 rfl rfl, aE (k := 1) h.s3.a1 rfl rfl, h.s3.a2, h.s3.a1, dF (by show (_ : Int) ≤ 0 + n; omega) (by show (0 : Int) + n ≤ _; omega), wl, gL (by show n ≤ (ver M 2).lim; rw [h.s3.v2]; exact hl)]
  rfl)
theorem pq {M : PM} {l m : Int} {a1 a2 a3 : PA} {s : Int} (h : S3 M l m a1 a2 a3 s) (f g : PA → PA) (hg : ∀ a, (f a).id = a.id) : onA (onA M.al 2 f) 1 g = [g a1, f a2, a3] := by
 unfold onA
 rw [h.al]
 simp [h.i1, h.i2, h.i3, hg]
theorem mA {M : PM} {l z s : Int} {a2 : PA} (h : SL M l z s a2) (h0 : a2.cur = 0) : curA M 2 = 0 := by
 unfold curA
 rw [h.s3.a2]
 exact h0
theorem uE {M : PM} {l s n m : Int} (h : SL M l 0 s (la2 0)) (h1 : 1 ≤ n) (h2 : n ≤ 10000000) (hs : s < 1000) : SL (nxt M (mkE 9 [2, 1, n, m])) l n (s + 1) (la2 n) := by
 refine ⟨h.s3.next rfl (by show 9 ≠ 1; decide) hs (b1 := la1 n) (b2 := la2 n) (b3 := AO 3 1 1) ?_ rfl rfl rfl, ?_⟩
 ·show onA (onA M.al 2 (addB n)) 1 (addB n) = _
  rw [pq h.s3 (addB n) (addB n) (fun _ => rfl)]
  show [la1 (0 + n), la2 (0 + n), _] = _
  rw [Int.zero_add]
 ·show pstB M.b (curA M 2) 3 2 n = _
  rw [mA h rfl, h.b, iE (by decide) (by omega), Int.zero_add]
theorem qj {M : PM} {l z s m : Int} (h : SL M l z s (la2 z)) (hz : z ≠ 0) (h1 : 0 ≤ z ∧ z ≤ 10000000) (hl : 1 ≤ l) (h3 : 1 ≤ m) (h4 : m ≤ 480) : askL M 0 (mkE 9 [2, 1, 1, m]) = 14 := by
 show lendL M 0 2 1 1 m = 14
 unfold lendL
 rw [aQ (by omega) (by omega), aQ h3 h4, wl, wl, aE (k := 2) h.s3.a2 rfl rfl, aE (k := 1) h.s3.a1 rfl rfl, h.s3.a2, h.s3.a1, dF (by show (_ : Int) ≤ z + 1; omega) (by show z + 1 ≤ _; omega), wl, gL (by show 1 ≤ (ver M 2).lim; rw [h.s3.v2]; exact hl), show owesO (some (la2 z)) = true from by show (z != 0) = true; simpa using hz]
 rfl
theorem uQ {M : PM} {l z s : Int} (h : SL M l z s (la2 z)) (hz : z ≠ 0) : askL M 0 (mkE 3 [2]) = 15 := by
 rw [kN h.s3.a2 rfl, show emptyO (some (la2 z)) = true from by show decide (z ≠ 0 ∨ (0 : Int) ≠ 0) = true; rw [decide_eq_true_iff]; exact Or.inl hz]
 rfl
theorem mB {M : PM} {l z s n : Int} (h : SL M l z s (la2 z)) (hz : z < n) (h1 : 1 ≤ n) (h2 : n ≤ 10000001) : askL M 0 (mkE 10 [2, 1, n]) = 12 := by
 show repayL M 0 2 1 n = 12
 unfold repayL
 rw [aQ (by omega) (by omega), wl, aE (k := 2) h.s3.a2 rfl rfl, aE (k := 1) h.s3.a1 rfl rfl, h.s3.a2, h.s3.a1, p9 (show (la2 z).bal < n from hz), cJ (by rw [h.s3.sp1 rfl]; show z + 0 - 0 < n; omega)]
 rfl
theorem me {M : PM} {l z s n : Int} (h : SL M l z s (la2 z)) (h1 : 1 ≤ n) (hz : n ≤ z) (h2 : z ≤ 10000000) : Good M (mkE 10 [2, 1, n]) :=
 ck h.s3.keys h.s3.uw (by decide) (qO ⟨by decide, by decide⟩ ⟨by decide, by decide⟩ ⟨by omega, by omega⟩) (by show 3 ≤ ct.getD 10 0; decide) (by
  show repayL M 0 2 1 n = 0
  unfold repayL
  rw [aQ (by omega) (by omega), wl, aE (k := 2) h.s3.a2 rfl rfl, aE (k := 1) h.s3.a1 rfl rfl, h.s3.a2, h.s3.a1, rN (show n ≤ (la2 z).bal from hz), gB (by rw [h.s3.sp1 rfl]; show n ≤ z + 0 - 0; omega)]
  rfl)
theorem mq {M : PM} {l z s n w : Int} (h : SL M l z s (la2 z)) (h1 : 1 ≤ n) (hz : n ≤ z) (h2 : z ≤ 10000000) (hw : z - n = w) (hs : s < 1000) : SL (nxt M (mkE 10 [2, 1, n])) l w (s + 1) (la2 w) := by
 subst hw
 refine ⟨h.s3.next rfl (by show 10 ≠ 1; decide) hs (b1 := la1 (z - n)) (b2 := la2 (z - n)) (b3 := AO 3 1 1) ?_ rfl rfl rfl, ?_⟩
 ·show onA (onA M.al 2 (addB (-n))) 1 (addB (-n)) = _
  rw [pq h.s3 (addB (-n)) (addB (-n)) (fun _ => rfl)]
  rfl
 ·show pstB M.b (curA M 2) 3 2 (-n) = _
  rw [mA h rfl, h.b, iE (by omega) (by omega)]
  rfl
theorem rA {M : PM} {l s : Int} (h : SL M l 0 s (la2 0)) : Good M (mkE 3 [2]) :=
 ck h.s3.keys h.s3.uw (by decide) (tl ⟨by decide, by decide⟩) (by show 1 ≤ ct.getD 3 0; decide) (by rw [kN h.s3.a2 rfl]; rfl)
theorem s8 {M : PM} {l s : Int} (h : SL M l 0 s (la2 0)) (hs : s < 1000) : SL (nxt M (mkE 3 [2])) l 0 (s + 1) (closedA (la2 0)) := by
 refine ⟨h.s3.next rfl (by show 3 ≠ 1; decide) hs (b1 := la1 0) (b2 := closedA (la2 0)) (b3 := AO 3 1 1) ?_ rfl rfl rfl, h.b⟩
 show onA M.al 2 closedA = _
 rw [S3.chg2 h.s3]
theorem sF {M : PM} {l s m : Int} (h : SL M l 0 s (closedA (la2 0))) (hl : 1 ≤ l) (h3 : 1 ≤ m) (h4 : m ≤ 480) : askL M 0 (mkE 9 [2, 1, 1, m]) = 14 := by
 show lendL M 0 2 1 1 m = 14
 unfold lendL
 rw [aQ (by omega) (by omega), aQ h3 h4, wl, wl, lA (k := 2) h.s3.a2 rfl rfl, aE (k := 1) h.s3.a1 rfl rfl, h.s3.a2, h.s3.a1, dF (by decide) (by decide), wl, gL (by show 1 ≤ (ver M 2).lim; rw [h.s3.v2]; exact hl)]
 rfl
set_option maxRecDepth 100000 in
theorem loans_walk (w : World) (T : TBL w) (h6 : 6 ≤ w.heap.size) (x y z : Int) (K : Nat) (hK : K < 65536) : Calls Tryz.prog 4 #[.int .i64 x, .int .i64 y, .int .i64 z, .int .u16 (K : Int)] w fun r w' => r = .returned (.bool true) ∧ Below w.heap.size w w' := by
 have HTT := hI_ T
 have H6w := hI_ h6
 clear T h6
 go_enter Tryz.func4, Tryz.ntmps4
 have hbs1 := @rI1
 have hbs2 := @rI2
 have hbs3 := @rI3
 have hbs4 := @rI4
 go_wp2_with fail
 refine (dZ w HTT.out H6w.out).mono ?_
 rintro r wA ⟨rfl, bA⟩
 have BA : Hid (Below w.heap.size w wA) := bA
 have H6 : Hid (6 ≤ wA.heap.size) := Nat.le_trans H6w.out bA.size
 have HTA : Hid (TBL wA) := HTT.out.step bA
 clear bA
 have a1 := um x 1000000 (by decide) (by decide)
 go_upto_region 4 with fail
 generalize wrap64 ((IntKind.u64.wrap x).tmod 1000000) = l0 at *
 try rw [show wrap64 (2 + l0) = 2 + l0 by unfold wrap64; omega]
 obtain ⟨P, hP⟩ : ∃ P, P = 1 + l0 := ⟨_, rfl⟩
 rw [show 2 + l0 = P + 1 by omega]
 have p1 : 1 ≤ P := by omega
 have p2 : P ≤ 1000000 := by omega
 clear a1 hP
 have a2 := um y P (by omega) (by omega)
 have hPP : IntKind.u64.wrap P = P := by show P % 2 ^ 64 = P; omega
 go_upto_region 5 with fail
 clear hPP
 generalize wrap64 ((IntKind.u64.wrap y).tmod P) = A0 at *
 try rw [show wrap64 (2 + A0) = 2 + A0 by unfold wrap64; omega]
 obtain ⟨Q, hQ⟩ : ∃ Q, Q = 1 + A0 := ⟨_, rfl⟩
 rw [show 2 + A0 = Q + 1 by omega]
 have q1 : 1 ≤ Q := by omega
 have q2 : Q ≤ P := by omega
 clear a2 hQ
 have a3 := um z Q (by omega) (by omega)
 have hQQ : IntKind.u64.wrap Q = Q := by show Q % 2 ^ 64 = Q; omega
 go_upto_region 6 with fail
 clear hQQ
 generalize wrap64 ((IntKind.u64.wrap z).tmod Q) = Z0 at *
 try rw [show wrap64 (1 + Z0) = 1 + Z0 by unfold wrap64; omega]
 obtain ⟨Z, hZ⟩ : ∃ Z, Z = 1 + Z0 := ⟨_, rfl⟩
 rw [← hZ]
 have z1 : 1 ≤ Z := by omega
 have z2 : Z ≤ Q := by omega
 clear a3 hZ
 have m1 := Int.tmod_eq_emod_of_nonneg (a := (K : Int)) (b := 480) (by omega)
 have m2 := Int.emod_nonneg (K : Int) (show (480 : Int) ≠ 0 by decide)
 have m3 := Int.emod_lt_of_pos (K : Int) (show (0 : Int) < 480 by decide)
 go_upto_region 7 with fail

 clear m1
 generalize (K : Int) % 480 = m0 at *
 try rw [show wrap64 (1 + m0) = 1 + m0 by unfold wrap64; omega]
 obtain ⟨n, hn⟩ : ∃ n, n = 1 + m0 := ⟨_, rfl⟩
 rw [← hn]
 have n1 : 1 ≤ n := by omega
 have n2 : n ≤ 480 := by omega
 clear m2 m3 hn
 obtain ⟨X, hX⟩ : ∃ X, X = P + 1 := ⟨_, rfl⟩
 rw [← hX]
 obtain ⟨A, hA⟩ : ∃ A, A = Q + 1 := ⟨_, rfl⟩
 rw [← hA]
 have g1 : 2 ≤ X := by omega
 have g2 : X ≤ 1000001 := by omega
 have g3 : 2 ≤ A := by omega
 have g4 : A ≤ X := by omega
 have g5 : Z < A := by omega
 clear hX hA p1 p2 q1 q2 z2
 go_wp2_with fail
 refine (gc wA HTA.out H6.out 0 X (by decide) ⟨by omega, by omega⟩).mono ?_
 rintro r w0 ⟨p, rfl, h0, b0⟩
 have HK_0 : Hid (BK w0 wA.heap.size p (LB 0 X)) := h0
 have BB_0 := hI_ b0
 have HS_0 : Hid (SL (LB 0 X) X 0 6 (la2 0)) := ⟨mx 0 X, lbal_0.symm⟩
 clear h0 b0
 generalize LB 0 X = M0 at *
 go_wp2_with fail
 refine (ap 9 [2, 1, X + 1, n] _ _ (vI4 w0 (2) (1) (X + 1) (n)) (by show 4 ≤ 8; decide)).mono ?_
 rintro r wa1 ⟨rfl, ba1⟩
 have ka1 := ((Below.refl w0.heap.size w0).alloc (Nat.le_refl _) (.cells #[.int .i64 (2), .int .i64 (1), .int .i64 (X + 1), .int .i64 (n)] 2)).trans (ba1.mono (by simp))
 have HK_a1 : Hid (BK _ wA.heap.size p _) := HK_0.out.step ka1
 have BB_a1 := hI_ (BB_0.out.trans (ka1.mono BB_0.out.size))
 clear  BB_0 HK_0
 clear ba1 ka1
 go_wp2_with fail
 refine (aD HK_a1.out (nF 9 (by decide) ⟨by omega, by omega⟩ ⟨by omega, by omega⟩ ⟨by omega, by omega⟩ ⟨by omega, by omega⟩) (az _) ay (aM (by decide) (by decide) (by show 4 ≤ ct.getD 9 0; decide)) ((bP HS_0.out.s3.keys HS_0.out.s3.uw (by decide)).trans (uS HS_0.out rfl (by omega) (by omega) n1 n2)) (by decide)).mono ?_
 rintro r wa2 ⟨rfl, ha2, ka2⟩
 have HK_a2 : Hid (BK _ wA.heap.size p _) := ha2
 have BB_a2 : Hid (Below wA.heap.size wA wa2) := BB_a1.out.trans ka2.bel
 clear  BB_a1 HK_a1
 clear ha2 ka2
 go_wp2_with fail
 refine (ap 9 [2, 3, A, n] _ _ (vI4 wa2 (2) (3) (A) (n)) (by show 4 ≤ 8; decide)).mono ?_
 rintro r wa3 ⟨rfl, ba3⟩
 have ka3 := ((Below.refl wa2.heap.size wa2).alloc (Nat.le_refl _) (.cells #[.int .i64 (2), .int .i64 (3), .int .i64 (A), .int .i64 (n)] 2)).trans (ba3.mono (by simp))
 have HK_a3 : Hid (BK _ wA.heap.size p _) := HK_a2.out.step ka3
 have BB_a3 := hI_ (BB_a2.out.trans (ka3.mono BB_a2.out.size))
 clear  BB_a2 HK_a2
 clear ba3 ka3
 go_wp2_with fail
 refine (aD HK_a3.out (nF 9 (by decide) ⟨by omega, by omega⟩ ⟨by omega, by omega⟩ ⟨by omega, by omega⟩ ⟨by omega, by omega⟩) (az _) ay (aM (by decide) (by decide) (by show 4 ≤ ct.getD 9 0; decide)) ((bP HS_0.out.s3.keys HS_0.out.s3.uw (by decide)).trans (uR HS_0.out rfl (by omega) g4 (by omega) n1 n2)) (by decide)).mono ?_
 rintro r wa4 ⟨rfl, ha4, ka4⟩
 have HK_a4 : Hid (BK _ wA.heap.size p _) := ha4
 have BB_a4 : Hid (Below wA.heap.size wA wa4) := BB_a3.out.trans ka4.bel
 clear  BB_a3 HK_a3
 clear ha4 ka4
 go_wp2_with fail
 refine (ap 9 [1, 2, A, n] _ _ (vI4 wa4 (1) (2) (A) (n)) (by show 4 ≤ 8; decide)).mono ?_
 rintro r wa5 ⟨rfl, ba5⟩
 have ka5 := ((Below.refl wa4.heap.size wa4).alloc (Nat.le_refl _) (.cells #[.int .i64 (1), .int .i64 (2), .int .i64 (A), .int .i64 (n)] 2)).trans (ba5.mono (by simp))
 have HK_a5 : Hid (BK _ wA.heap.size p _) := HK_a4.out.step ka5
 have BB_a5 := hI_ (BB_a4.out.trans (ka5.mono BB_a4.out.size))
 clear  BB_a4 HK_a4
 clear ba5 ka5
 go_wp2_with fail
 refine (aD HK_a5.out (nF 9 (by decide) ⟨by omega, by omega⟩ ⟨by omega, by omega⟩ ⟨by omega, by omega⟩ ⟨by omega, by omega⟩) (az _) ay (aM (by decide) (by decide) (by show 4 ≤ ct.getD 9 0; decide)) ((bP HS_0.out.s3.keys HS_0.out.s3.uw (by decide)).trans (sE HS_0.out (by omega) (by omega) n1 n2)) (by decide)).mono ?_
 rintro r wa6 ⟨rfl, ha6, ka6⟩
 have HK_a6 : Hid (BK _ wA.heap.size p _) := ha6
 have BB_a6 : Hid (Below wA.heap.size wA wa6) := BB_a5.out.trans ka6.bel
 clear  BB_a5 HK_a5
 clear ha6 ka6
 go_wp2_with fail
 refine (ap 9 [2, 1, A, 481] _ _ (vI4 wa6 (2) (1) (A) (481)) (by show 4 ≤ 8; decide)).mono ?_
 rintro r wa7 ⟨rfl, ba7⟩
 have ka7 := ((Below.refl wa6.heap.size wa6).alloc (Nat.le_refl _) (.cells #[.int .i64 (2), .int .i64 (1), .int .i64 (A), .int .i64 (481)] 2)).trans (ba7.mono (by simp))
 have HK_a7 : Hid (BK _ wA.heap.size p _) := HK_a6.out.step ka7
 have BB_a7 := hI_ (BB_a6.out.trans (ka7.mono BB_a6.out.size))
 clear  BB_a6 HK_a6
 clear ba7 ka7
 go_wp2_with fail
 refine (aD HK_a7.out (nF 9 (by decide) ⟨by omega, by omega⟩ ⟨by omega, by omega⟩ ⟨by omega, by omega⟩ ⟨by omega, by omega⟩) (az _) ay (aM (by decide) (by decide) (by show 4 ≤ ct.getD 9 0; decide)) ((bP HS_0.out.s3.keys HS_0.out.s3.uw (by decide)).trans (uP HS_0.out (by omega) g4 (by omega))) (by decide)).mono ?_
 rintro r wa8 ⟨rfl, ha8, ka8⟩
 have HK_a8 : Hid (BK _ wA.heap.size p _) := ha8
 have BB_a8 : Hid (Below wA.heap.size wA wa8) := BB_a7.out.trans ka8.bel
 clear  BB_a7 HK_a7
 clear ha8 ka8
 go_wp2_with fail
 refine (ap 9 [2, 1, A, n] _ _ (vI4 wa8 (2) (1) (A) (n)) (by show 4 ≤ 8; decide)).mono ?_
 rintro r wa9 ⟨rfl, ba9⟩
 have ka9 := ((Below.refl wa8.heap.size wa8).alloc (Nat.le_refl _) (.cells #[.int .i64 (2), .int .i64 (1), .int .i64 (A), .int .i64 (n)] 2)).trans (ba9.mono (by simp))
 have HK_a9 : Hid (BK _ wA.heap.size p _) := HK_a8.out.step ka9
 have BB_a9 := hI_ (BB_a8.out.trans (ka9.mono BB_a8.out.size))
 clear  BB_a8 HK_a8
 clear ba9 ka9
 go_wp2_with fail
 refine (bj HK_a9.out (ug HS_0.out (by omega) g4 (by omega) n1 n2) (by rw [HS_0.out.s3.seq]; decide) (az _) ay).mono ?_
 rintro r wa10 ⟨rfl, ha10, ka10⟩
 have HK_a10 : Hid (BK _ wA.heap.size p _) := ha10
 have BB_a10 : Hid (Below wA.heap.size wA wa10) := BB_a9.out.trans ka10.bel
 clear  BB_a9 HK_a9
 clear ha10 ka10
 have HS_1 := hI_ (uE (m := n) (n := A) HS_0.out (by omega) (by omega) (by decide))
 generalize nxt M0 (mkE 9 [2, 1, A, n]) = M1 at *
 clear HS_0
 go_wp2_with fail
 refine (ap 9 [2, 1, 1, n] _ _ (vI4 wa10 (2) (1) (1) (n)) (by show 4 ≤ 8; decide)).mono ?_
 rintro r wa11 ⟨rfl, ba11⟩
 have ka11 := ((Below.refl wa10.heap.size wa10).alloc (Nat.le_refl _) (.cells #[.int .i64 (2), .int .i64 (1), .int .i64 (1), .int .i64 (n)] 2)).trans (ba11.mono (by simp))
 have HK_a11 : Hid (BK _ wA.heap.size p _) := HK_a10.out.step ka11
 have BB_a11 := hI_ (BB_a10.out.trans (ka11.mono BB_a10.out.size))
 clear  BB_a10 HK_a10
 clear ba11 ka11
 go_wp2_with fail
 refine (aD HK_a11.out (nF 9 (by decide) ⟨by omega, by omega⟩ ⟨by omega, by omega⟩ ⟨by omega, by omega⟩ ⟨by omega, by omega⟩) (az _) ay (aM (by decide) (by decide) (by show 4 ≤ ct.getD 9 0; decide)) ((bP HS_1.out.s3.keys HS_1.out.s3.uw (by decide)).trans (qj HS_1.out (by show A ≠ 0; omega) (by omega) (by omega) n1 n2)) (by decide)).mono ?_
 rintro r wa12 ⟨rfl, ha12, ka12⟩
 have HK_a12 : Hid (BK _ wA.heap.size p _) := ha12
 have BB_a12 : Hid (Below wA.heap.size wA wa12) := BB_a11.out.trans ka12.bel
 clear  BB_a11 HK_a11
 clear ha12 ka12
 go_wp2_with fail
 refine (ap 3 [2] _ _ (vI1 wa12 (2)) (by show 1 ≤ 8; decide)).mono ?_
 rintro r wa13 ⟨rfl, ba13⟩
 have ka13 := ((Below.refl wa12.heap.size wa12).alloc (Nat.le_refl _) (.cells #[.int .i64 (2)] 2)).trans (ba13.mono (by simp))
 have HK_a13 : Hid (BK _ wA.heap.size p _) := HK_a12.out.step ka13
 have BB_a13 := hI_ (BB_a12.out.trans (ka13.mono BB_a12.out.size))
 clear  BB_a12 HK_a12
 clear ba13 ka13
 go_wp2_with fail
 refine (aD HK_a13.out (dQ (by decide) (tl ⟨by decide, by decide⟩)) (az _) ay (aM (by decide) (by decide) (by show 1 ≤ ct.getD 3 0; decide)) ((bP HS_1.out.s3.keys HS_1.out.s3.uw (by decide)).trans (uQ HS_1.out (by show A ≠ 0; omega))) (by decide)).mono ?_
 rintro r wa14 ⟨rfl, ha14, ka14⟩
 have HK_a14 : Hid (BK _ wA.heap.size p _) := ha14
 have BB_a14 : Hid (Below wA.heap.size wA wa14) := BB_a13.out.trans ka14.bel
 clear  BB_a13 HK_a13
 clear ha14 ka14
 go_wp2_with fail
 refine (ap 10 [2, 1, A + 1] _ _ (vI3 wa14 (2) (1) (A + 1)) (by show 3 ≤ 8; decide)).mono ?_
 rintro r wa15 ⟨rfl, ba15⟩
 have ka15 := ((Below.refl wa14.heap.size wa14).alloc (Nat.le_refl _) (.cells #[.int .i64 (2), .int .i64 (1), .int .i64 (A + 1)] 2)).trans (ba15.mono (by simp))
 have HK_a15 : Hid (BK _ wA.heap.size p _) := HK_a14.out.step ka15
 have BB_a15 := hI_ (BB_a14.out.trans (ka15.mono BB_a14.out.size))
 clear  BB_a14 HK_a14
 clear ba15 ka15
 go_wp2_with fail
 refine (aD HK_a15.out (vW 10 (by decide) ⟨by omega, by omega⟩ ⟨by omega, by omega⟩ ⟨by omega, by omega⟩) (az _) ay (aM (by decide) (by decide) (by show 3 ≤ ct.getD 10 0; decide)) ((bP HS_1.out.s3.keys HS_1.out.s3.uw (by decide)).trans (mB HS_1.out (by omega) (by omega) (by omega))) (by decide)).mono ?_
 rintro r wa16 ⟨rfl, ha16, ka16⟩
 have HK_a16 : Hid (BK _ wA.heap.size p _) := ha16
 have BB_a16 : Hid (Below wA.heap.size wA wa16) := BB_a15.out.trans ka16.bel
 clear  BB_a15 HK_a15
 clear ha16 ka16
 go_wp2_with fail
 refine (jy HK_a16.out).mono ?_
 rintro r wa17 ⟨⟨va17, rfl, oa17⟩, ha17, ka17⟩
 have HK_a17 : Hid (BK _ wA.heap.size p _) := ha17
 have BB_a17 : Hid (Below wA.heap.size wA wa17) := BB_a16.out.trans ka17.bel
 clear  BB_a16 HK_a16
 rw [HS_1.out.b] at oa17
 clear ha17 ka17
 have HO := hI_ oa17.sl
 clear oa17
 go_wp2_with fail
 refine (jQ va17 _ wa17 HO.out 3 0).mono ?_
 rintro r wa18 ⟨rfl, ka18⟩
 rw [od _ (show Va 3 0 by unfold Va; decide), rL]
 have HK_a18 : Hid (BK _ wA.heap.size p _) := HK_a17.out.step ka18
 have BB_a18 := hI_ (BB_a17.out.trans (ka18.mono BB_a17.out.size))
 clear  BB_a17 HK_a17
 clear ka18 HO
 go_wp2_with fail
 refine (rO A wa18 (by omega) (by omega)).mono ?_
 rintro r wa19 ⟨rfl, ka19⟩
 have HK_a19 : Hid (BK _ wA.heap.size p _) := HK_a18.out.step ka19
 have BB_a19 := hI_ (BB_a18.out.trans (ka19.mono BB_a18.out.size))
 clear  BB_a18 HK_a18
 clear ka19
 go_wp2_with fail
 refine (ap 10 [2, 1, Z] _ _ (vI3 wa19 (2) (1) (Z)) (by show 3 ≤ 8; decide)).mono ?_
 rintro r wa20 ⟨rfl, ba20⟩
 have ka20 := ((Below.refl wa19.heap.size wa19).alloc (Nat.le_refl _) (.cells #[.int .i64 (2), .int .i64 (1), .int .i64 (Z)] 2)).trans (ba20.mono (by simp))
 have HK_a20 : Hid (BK _ wA.heap.size p _) := HK_a19.out.step ka20
 have BB_a20 := hI_ (BB_a19.out.trans (ka20.mono BB_a19.out.size))
 clear  BB_a19 HK_a19
 clear ba20 ka20
 go_wp2_with fail
 refine (bj HK_a20.out (me HS_1.out z1 (by omega) (by omega)) (by rw [HS_1.out.s3.seq]; decide) (az _) ay).mono ?_
 rintro r wa21 ⟨rfl, ha21, ka21⟩
 have HK_a21 : Hid (BK _ wA.heap.size p _) := ha21
 have BB_a21 : Hid (Below wA.heap.size wA wa21) := BB_a20.out.trans ka21.bel
 clear  BB_a20 HK_a20
 clear ha21 ka21
 have HS_2 := hI_ (mq (w := A - Z) (n := Z) HS_1.out (by omega) (by omega) (by omega) (by omega) (by decide))
 generalize nxt M1 (mkE 10 [2, 1, Z]) = M2 at *
 clear HS_1
 go_wp2_with fail
 refine (ap 10 [2, 1, A - Z] _ _ (vI3 wa21 (2) (1) (A - Z)) (by show 3 ≤ 8; decide)).mono ?_
 rintro r wa22 ⟨rfl, ba22⟩
 have ka22 := ((Below.refl wa21.heap.size wa21).alloc (Nat.le_refl _) (.cells #[.int .i64 (2), .int .i64 (1), .int .i64 (A - Z)] 2)).trans (ba22.mono (by simp))
 have HK_a22 : Hid (BK _ wA.heap.size p _) := HK_a21.out.step ka22
 have BB_a22 := hI_ (BB_a21.out.trans (ka22.mono BB_a21.out.size))
 clear  BB_a21 HK_a21
 clear ba22 ka22
 go_wp2_with fail
 refine (bj HK_a22.out (me HS_2.out (by omega) (by omega) (by omega)) (by rw [HS_2.out.s3.seq]; decide) (az _) ay).mono ?_
 rintro r wa23 ⟨rfl, ha23, ka23⟩
 have HK_a23 : Hid (BK _ wA.heap.size p _) := ha23
 have BB_a23 : Hid (Below wA.heap.size wA wa23) := BB_a22.out.trans ka23.bel
 clear  BB_a22 HK_a22
 clear ha23 ka23
 have HS_3 := hI_ (mq (w := 0) (n := A - Z) HS_2.out (by omega) (by omega) (by omega) (by omega) (by decide))
 generalize nxt M2 (mkE 10 [2, 1, A - Z]) = M3 at *
 clear HS_2
 go_wp2_with fail
 refine (ap 10 [2, 1, 1] _ _ (vI3 wa23 (2) (1) (1)) (by show 3 ≤ 8; decide)).mono ?_
 rintro r wa24 ⟨rfl, ba24⟩
 have ka24 := ((Below.refl wa23.heap.size wa23).alloc (Nat.le_refl _) (.cells #[.int .i64 (2), .int .i64 (1), .int .i64 (1)] 2)).trans (ba24.mono (by simp))
 have HK_a24 : Hid (BK _ wA.heap.size p _) := HK_a23.out.step ka24
 have BB_a24 := hI_ (BB_a23.out.trans (ka24.mono BB_a23.out.size))
 clear  BB_a23 HK_a23
 clear ba24 ka24
 go_wp2_with fail
 refine (aD HK_a24.out (vW 10 (by decide) ⟨by omega, by omega⟩ ⟨by omega, by omega⟩ ⟨by omega, by omega⟩) (az _) ay (aM (by decide) (by decide) (by show 3 ≤ ct.getD 10 0; decide)) ((bP HS_3.out.s3.keys HS_3.out.s3.uw (by decide)).trans (mB HS_3.out (by decide) (by decide) (by decide))) (by decide)).mono ?_
 rintro r wa25 ⟨rfl, ha25, ka25⟩
 have HK_a25 : Hid (BK _ wA.heap.size p _) := ha25
 have BB_a25 : Hid (Below wA.heap.size wA wa25) := BB_a24.out.trans ka25.bel
 clear  BB_a24 HK_a24
 clear ha25 ka25
 go_wp2_with fail
 refine (ap 3 [2] _ _ (vI1 wa25 (2)) (by show 1 ≤ 8; decide)).mono ?_
 rintro r wa26 ⟨rfl, ba26⟩
 have ka26 := ((Below.refl wa25.heap.size wa25).alloc (Nat.le_refl _) (.cells #[.int .i64 (2)] 2)).trans (ba26.mono (by simp))
 have HK_a26 : Hid (BK _ wA.heap.size p _) := HK_a25.out.step ka26
 have BB_a26 := hI_ (BB_a25.out.trans (ka26.mono BB_a25.out.size))
 clear  BB_a25 HK_a25
 clear ba26 ka26
 go_wp2_with fail
 refine (bj HK_a26.out (rA HS_3.out) (by rw [HS_3.out.s3.seq]; decide) (az _) ay).mono ?_
 rintro r wa27 ⟨rfl, ha27, ka27⟩
 have HK_a27 : Hid (BK _ wA.heap.size p _) := ha27
 have BB_a27 : Hid (Below wA.heap.size wA wa27) := BB_a26.out.trans ka27.bel
 clear  BB_a26 HK_a26
 clear ha27 ka27
 have HS_4 := hI_ (s8 HS_3.out (by decide))
 generalize nxt M3 (mkE 3 [2]) = M4 at *
 clear HS_3
 go_wp2_with fail
 refine (jy HK_a27.out).mono ?_
 rintro r wa28 ⟨⟨va28, rfl, oa28⟩, ha28, ka28⟩
 have HK_a28 : Hid (BK _ wA.heap.size p _) := ha28
 have BB_a28 : Hid (Below wA.heap.size wA wa28) := BB_a27.out.trans ka28.bel
 clear  BB_a27 HK_a27
 rw [HS_4.out.b] at oa28
 clear ha28 ka28
 rw [sM (fun c u => by rw [lbal_0])] at oa28
 obtain ⟨ta, tc, rfl, _, _⟩ := oa28.form
 clear oa28
 go_wp2_with fail
 refine (ap 9 [2, 1, 1, n] _ _ (vI4 wa28 (2) (1) (1) (n)) (by show 4 ≤ 8; decide)).mono ?_
 rintro r wa29 ⟨rfl, ba29⟩
 have ka29 := ((Below.refl wa28.heap.size wa28).alloc (Nat.le_refl _) (.cells #[.int .i64 (2), .int .i64 (1), .int .i64 (1), .int .i64 (n)] 2)).trans (ba29.mono (by simp))
 have HK_a29 : Hid (BK _ wA.heap.size p _) := HK_a28.out.step ka29
 have BB_a29 := hI_ (BB_a28.out.trans (ka29.mono BB_a28.out.size))
 clear  BB_a28 HK_a28
 clear ba29 ka29
 go_wp2_with fail
 refine (aD HK_a29.out (nF 9 (by decide) ⟨by omega, by omega⟩ ⟨by omega, by omega⟩ ⟨by omega, by omega⟩ ⟨by omega, by omega⟩) (az _) ay (aM (by decide) (by decide) (by show 4 ≤ ct.getD 9 0; decide)) ((bP HS_4.out.s3.keys HS_4.out.s3.uw (by decide)).trans (sF HS_4.out (by omega) n1 n2)) (by decide)).mono ?_
 rintro r wa30 ⟨rfl, ha30, ka30⟩
 have HK_a30 : Hid (BK _ wA.heap.size p _) := ha30
 have BB_a30 : Hid (Below wA.heap.size wA wa30) := BB_a29.out.trans ka30.bel
 clear  BB_a29 HK_a29
 clear ha30 ka30
 go_wp2_with fail
 go_ret
 exact ⟨rfl, BA.out.trans (BB_a30.out.mono BA.out.size)⟩
end Go.Proofs.YtjkiplndbcmmbaaGreatDoor