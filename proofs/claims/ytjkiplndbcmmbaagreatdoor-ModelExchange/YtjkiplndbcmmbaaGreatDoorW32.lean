/- texts of the model: Mov Mow Mok Mol Mom Mon Moo Mop -/
import Derived.Test.YtjkiplndbcmmbaaGreatDoorW31
import Derived.Deep.DeepCutAuto
import Derived.Test.YtjkiplndbcmmbaaGreatDoorW30
import Derived.Test.YtjkiplndbcmmbaaGreatDoorW20
import Derived.Test.YtjkiplndbcmmbaaGreatDoorW24
set_option linter.unusedVariables false
set_option linter.unusedSimpArgs false
set_option maxHeartbeats 16000000
set_option maxRecDepth 100000
namespace Go.Proofs.YtjkiplndbcmmbaaGreatDoor
open Tryz
open Go.RowKit Go.Maps
theorem xV {α β : Type} [DecidableEq α] {w : World} {ops : Array Oper} {rest : List Oper} {o : Oper} {a : Act} {Q : Exit → Act → World → Prop} (hg : o.guard = none) (m x v : Operand) (t : TypeId) (hop : o.op = Op.mapUpdate t m x v)
  (K : KK α) (enc : β → Value) (e : TypeId) (ht : prog.underlying t = some (.map K.kt e)) (b : Nat) (xs : List (α × β)) (hm : a.eval m = .map (some b)) (h : AM K enc w b xs) (hn : xs.length < maxLen)
  (key : α) (val : β) (hx : a.eval x = K.kv key) (hv : a.eval v = enc val) (ha : K.ok key)
  (hK : ∀ w', AM K enc w' b ((key, val) :: xs) → w.mapTurned w' b → wpList prog ops Q rest (a.put o.dst undef) w') : wpList prog ops Q (o :: rest) a w := by
 refine wpList_plain hg fun K' hK' => ?_
 obtain ⟨w', hrun, r1, r2⟩ := h.store ht hn ha val
 unfold Oper.wp
 simp [execOp, hop, hm, hx, hv, hrun, Result.andThen]
 exact hK' _ _ (hK w' r1 r2)
theorem MD.maps {w : World} {B : Nat} {F : FB} {M : PM} (h : MD w B F M) : F.bm ≠ F.ml ∧ F.bm ≠ F.rm ∧ F.bm ≠ F.km ∧ F.ml ≠ F.rm ∧ F.ml ≠ F.km ∧ F.rm ≠ F.km := by
 have h1 := h.mps
 unfold FB.maps at h1
 simp only [List.nodup_cons, List.mem_cons, not_or] at h1
 exact ⟨h1.1.1, h1.1.2.1, h1.1.2.2.1, h1.2.1.1, h1.2.1.2.1, h1.2.2.1.1⟩
theorem MD.setK {w w' : World} {B : Nat} {F : FB} {M : PM} (h : MD w B F M) {ks : List (Nat × Unit)} (k : But (fun j => j = F.km) w w') (L : AM KU encS w' F.km ks) : MD w' B F { M with keys := ks } := by
 obtain ⟨S, hC⟩ := h.cat
 obtain ⟨sv, hV⟩ := h.cbm
 have Am := h.kys.isMap
 have m := h.maps
 have nv : ∀ {p : Nat} {cs : List Value} {T : TypeId}, VA w p cs T → ¬ (p = F.km) := fun v e => v.neM Am e
 refine ⟨h.va.but k (nv h.va), ⟨S, hC.butM hV k (fun j hj => by subst hj; exact NC.map Am (fun e => m.2.2.1 e.symm))⟩, ⟨sv, hV.but k (nv hV)⟩, h.led.but k (nv h.led.va) m.2.2.2.2.1, h.rts.but k m.2.2.2.2.2, L, h.row.but k (fun g hg hx => ?_), h.len, fun j a y ha hy => ?_, h.low, h.mps, h.abs, ⟨h.wf.day, h.wf.acs, h.wf.sort, h.wf.len, h.wf.rats, h.wf.seq, h.wf.run, h.wf.adds⟩⟩
 ·obtain ⟨cs, e⟩ := h.row.blkT hg
  subst hx
  obtain ⟨es, c, e2⟩ := Am
  have := e.symm.trans e2
  cases this
 ·have hb' := h.acs j a y ha hy
  exact ⟨hb'.1.but k (nv hb'.1), hb'.2.but k (fun e => (h.maps_ne hy).2.2.2 e.symm)⟩
theorem MD.setR {w w' : World} {B : Nat} {F : FB} {M : PM} (h : MD w B F M) {rs : List ((Int × Int) × Int)} (k : But (fun j => j = F.rm) w w') (L : AM KR encI w' F.rm rs) (hr : ∀ p ∈ rs, (0 ≤ p.1.1 ∧ p.1.1 ≤ 3) ∧ (0 ≤ p.1.2 ∧ p.1.2 ≤ 3) ∧ 1 ≤ p.2 ∧ p.2 ≤ 1000000000000) : MD w' B F { M with rates := rs } := by
 obtain ⟨S, hC⟩ := h.cat
 obtain ⟨sv, hV⟩ := h.cbm
 have Am := h.rts.isMap
 have m := h.maps
 have nv : ∀ {p : Nat} {cs : List Value} {T : TypeId}, VA w p cs T → ¬ (p = F.rm) := fun v e => v.neM Am e
 refine ⟨h.va.but k (nv h.va), ⟨S, hC.butM hV k (fun j hj => by subst hj; exact NC.map Am (fun e => m.2.1 e.symm))⟩, ⟨sv, hV.but k (nv hV)⟩, h.led.but k (nv h.led.va) m.2.2.2.1, L, h.kys.but k (fun e => m.2.2.2.2.2 e.symm), h.row.but k (fun g hg hx => ?_), h.len, fun j a y ha hy => ?_, h.low, h.mps, h.abs, ⟨h.wf.day, h.wf.acs, h.wf.sort, h.wf.len, hr, h.wf.seq, h.wf.run, h.wf.adds⟩⟩
 ·obtain ⟨cs, e⟩ := h.row.blkT hg
  subst hx
  obtain ⟨es, c, e2⟩ := Am
  have := e.symm.trans e2
  cases this
 ·have hb' := h.acs j a y ha hy
  exact ⟨hb'.1.but k (nv hb'.1), hb'.2.but k (fun e => (h.maps_ne hy).2.2.1 e.symm)⟩
def heldA (a : PA) (k n : Int) : PA := { a with held := a.held + n, hs := (k, n) :: a.hs }
theorem PA.wf.heldA {a : PA} (h : a.wf) {k n : Int} (hk : 1 ≤ k ∧ k ≤ 1000000000) (hn : 1 ≤ n ∧ n ≤ 10000000000000) (h0 : lkA a.hs k = none) (hl : a.hs.length < 64) (hh : a.held + n ≤ 20000000000000) : (heldA a k n).wf :=
 ⟨h.id, h.prod, h.cur, h.kind, h.bal, ⟨by have := h.held; show 0 ≤ a.held + n; omega, hh⟩, h.acc, List.pairwise_cons.2 ⟨fun p hp e => kE h0 p hp e.symm, h.hs⟩, by show (_ :: a.hs).length ≤ 64; simp; omega, fun p hp => by
  rcases List.mem_cons.1 hp with rfl | hp
  ·exact ⟨hk, hn⟩
  ·exact h.hv p hp, by show a.held + n = n + _; rw [h.sum]; omega⟩
theorem qA (w : World) (B : Nat) (F : FB) (M : PM) (h : MD w B F M) (i : Nat) (a : PA) (x : Nat × Nat) (hi : IsA F M i a x) (k n : Int) (hk : 1 ≤ k ∧ k ≤ 1000000000) (n1 : 1 ≤ n) (n2 : n ≤ 10000000000000) (h0 : lkA a.hs k = none) (hl : a.hs.length < 64) (hh : a.held + n ≤ 20000000000000) :
  Calls prog 88 #[.pointer (some ⟨x.1, 0, none⟩), .int .i64 k, .int .i64 n] w fun e w' => e = .returned (.tuple #[]) ∧ MD w' B F { M with al := M.al.set i (heldA a k n) } ∧ But (fun j => j = x.1 ∨ j = x.2) w w' := by
 have W := (h.acs i a x hi.a hi.x).1
 have HW_0 : Hid (VA w x.1 (a.cells x.2) 85) := W
 have HA : Hid (AM KI encI w x.2 a.hs) := (h.acs i a x hi.a hi.x).2
 have HF := hI_ ((h.awf hi).heldA hk ⟨n1, n2⟩ h0 hl hh)
 have g0 := (h.awf hi).held.1
 have HM : Hid (MD w B F M) := h
 have HI : Hid (IsA F M i a x) := hi
 have HK : Hid (I64 k) := ⟨by omega, by omega⟩
 have HLN := hI_ hl
 have HNE : Hid (x.1 ≠ x.2) := HW_0.out.neM HA.out.isMap
 have c8 := HW_0.out.cell 8 (v := .map (some x.2)) rfl
 clear h hi h0 hl hk W
 go_enter func88, ntmps88
 go_upto_region 1 with (refine xV rfl _ _ _ 83 rfl KI encI 2 underlying83 x.2 a.hs (by rfl) HA.out (by have := HLN.out; unfold maxLen; omega) k n (by rfl) (by rfl) HK.out ?_; intro w1 am tn)
 have HA_1 := hI_ am
 have HT_1 := hI_ (aI tn)
 have HW_1 : Hid (VA w1 x.1 (a.cells x.2) 85) := HW_0.out.but HT_1.out HNE.out
 clear am tn c8
 have c6 := HW_1.out.cell 6 (v := .int .i64 a.held) rfl
 have f6 := HW_1.out.free 6
 have hbk := HW_1.out.blk
 have HW_2 : Hid (VA (w1.setCell ⟨x.1, 6, none⟩ (.int .i64 (a.held + n))) x.1 ((heldA a k n).cells x.2) 85) := HW_1.out.set 6 (.int .i64 (a.held + n))
 have HU_2 := hI_ (au w1 x.1 6 (.int .i64 (a.held + n)))
 have HA_2 := hI_ (HA_1.out.but HU_2.out.but (fun e => HNE.out e.symm))
 go_wp2_with fail
 have HB : Hid (But (fun j => j = x.1 ∨ j = x.2) w (w1.setCell ⟨x.1, 6, none⟩ (.int .i64 (a.held + n)))) := (HT_1.out.mono (fun j hj => Or.inr hj)).trans HU_2.out.but (fun j _ hj => Or.inl hj)
 exact bodyPost_end (v := .tuple #[]) (by simp [results, results88, go_sem]) rfl ⟨rfl, HM.out.setA HI.out HB.out HW_2.out HA_2.out HF.out rfl, HB.out⟩
def useL (ks : List (Nat × Unit)) (key : Nat) : List (Nat × Unit) := if key = 0 then ks else (key, ()) :: ks
theorem n9 (w : World) (B : Nat) (F : FB) (M : PM) (h : MD w B F M) (key : Nat) (hk : key < 18446744073709551616) (hl : M.keys.length < 1000000000000) :
  Calls prog 56 #[.pointer (some ⟨F.pm, 0, none⟩), .int .u64 (key : Int)] w fun e w' => e = .returned (.tuple #[]) ∧ MD w' B F { M with keys := useL M.keys key } ∧ But (fun j => j = F.km) w w' := by
 have HM : Hid (MD w B F M) := h
 have HK : Hid (key < 18446744073709551616) := hk
 have HLN := hI_ hl
 by_cases h0 : key = 0
 ·subst h0
  clear h hk hl
  go_enter func56, ntmps56
  go_wp2_with fail
  exact bodyPost_end (v := .tuple #[]) (by simp [results, results56, go_sem]) rfl ⟨rfl, HM.out, ac (Below.refl _ _) _⟩
 ·have e0 : (((key : Nat) : Int) = 0) = False := by simp; omega
  have c5 := HM.out.va.cell 5 (v := .map (some F.km)) rfl
  clear h hk hl
  go_enter func56, ntmps56
  go_wp2_with (refine xV rfl _ _ _ 96 rfl KU encS _ underlying96 F.km M.keys (by rfl) HM.out.kys (by have := HLN.out; unfold maxLen; omega) key () (by rfl) (by rfl) HK.out ?_; intro w1 am tn)
  refine bodyPost_end (v := .tuple #[]) (by simp [results, results56, go_sem]) rfl ⟨rfl, ?_, aI tn⟩
  unfold useL
  rw [if_neg h0]
  exact HM.out.setK (aI tn) am
theorem yp {α β : Type} [DecidableEq α] {w : World} {ops : Array Oper} {rest : List Oper} {o : Oper} {a : Act} {Q : Exit → Act → World → Prop} (hg : o.guard = none) (m x : Operand) (K : KK α) (t : TypeId) (hop : o.op = Op.call { callee := Callee.builtin Builtin.delete, args := #[m, x], argTypes := #[t, K.kt] })
  (enc : β → Value) (e : TypeId) (ht : prog.underlying t = some (.map K.kt e)) (b : Nat) (xs : List (α × β)) (hm : a.eval m = .map (some b)) (h : AM K enc w b xs)
  (key : α) (hx : a.eval x = K.kv key) (ha : K.ok key)
  (hK : ∀ w', AM K enc w' b (xs.filter fun p => decide (p.1 ≠ key)) → w.mapTurned w' b → wpList prog ops Q rest (a.put o.dst (.tuple #[])) w') : wpList prog ops Q (o :: rest) a w := by
 refine wpList_plain hg fun K' hK' => ?_
 obtain ⟨w', hrun, r1, r2⟩ := h.drop ht ha o.type
 unfold Oper.wp
 simp [execOp, hop, resolve, invoke, builtin, hm, hx, hrun, Result.andThen]
 exact hK' _ _ (hK w' r1 r2)
theorem is {k n : Int} : ∀ {hs : List (Int × Int)}, (hs.Pairwise fun p q => p.1 ≠ q.1) → lkA hs k = some n → (hs.map (·.2)).foldr (· + ·) 0 = n + ((hs.filter fun p => decide (p.1 ≠ k)).map (·.2)).foldr (· + ·) 0
 | [], _, h => by rw [mW] at h; cases h
 | p :: t, hp, h => by
  rw [di] at h
  obtain ⟨h1, h2⟩ := List.pairwise_cons.1 hp
  by_cases e : p.1 = k
  ·rw [if_pos e] at h
   cases h
   have e1 : t.filter (fun q => decide (q.1 ≠ k)) = t := List.filter_eq_self.2 fun q hq => by have := h1 q hq; simp; intro e2; exact this (e.trans e2.symm)
   have e2 : decide (p.1 ≠ k) = false := by simp [e]
   rw [List.filter_cons, e2, e1]
   rfl
  ·rw [if_neg e] at h
   have e2 : decide (p.1 ≠ k) = true := by simp [e]
   rw [List.filter_cons, e2]
   have := is h2 h
   simp only [List.map_cons, List.foldr_cons, if_true]
   rw [this]
   omega
theorem nt : ∀ {hs : List (Int × Int)}, (∀ p ∈ hs, 1 ≤ p.2) → 0 ≤ (hs.map (·.2)).foldr (· + ·) 0
 | [], _ => by decide
 | p :: t, h => by
  have h1 := h p (List.mem_cons_self ..)
  have h2 := nt (fun q hq => h q (List.mem_cons_of_mem _ hq))
  simp only [List.map_cons, List.foldr_cons]
  omega
def freedA (a : PA) (k n : Int) : PA := { a with held := a.held - n, hs := a.hs.filter fun p => decide (p.1 ≠ k) }
theorem PA.wf.freedA {a : PA} (h : a.wf) {k n : Int} (h0 : lkA a.hs k = some n) : (freedA a k n).wf := by
 have h1 := is h.hs h0
 have hm : ∀ p ∈ a.hs.filter (fun p => decide (p.1 ≠ k)), p ∈ a.hs := fun p hp => (List.mem_filter.1 hp).1
 have h2 := nt (hs := a.hs.filter fun p => decide (p.1 ≠ k)) (fun p hp => (h.hv p (hm p hp)).2.1)
 have h3 := (h.hv _ (gx h0)).2
 have h4 := h.sum
 have h5 := h.held
 refine ⟨h.id, h.prod, h.cur, h.kind, h.bal, ⟨?_, ?_⟩, h.acc, h.hs.filter _, Nat.le_trans (List.length_filter_le _ _) h.hl, fun p hp => h.hv p (hm p hp), ?_⟩
 ·show 0 ≤ a.held - n
  rw [h4, h1]
  omega
 ·show a.held - n ≤ _
  have := h3.1
  simp only at this
  omega
 ·show a.held - n = ((a.hs.filter fun p => decide (p.1 ≠ k)).map (·.2)).foldr (· + ·) 0
  omega
theorem qz (w : World) (B : Nat) (F : FB) (M : PM) (h : MD w B F M) (i : Nat) (a : PA) (x : Nat × Nat) (hi : IsA F M i a x) (k n : Int) (h0 : lkA a.hs k = some n) :
  Calls prog 89 #[.pointer (some ⟨x.1, 0, none⟩), .int .i64 k] w fun e w' => e = .returned (.tuple #[]) ∧ MD w' B F { M with al := M.al.set i (freedA a k n) } ∧ But (fun j => j = x.1 ∨ j = x.2) w w' := by
 have hv := (h.awf hi).hv _ (gx h0)
 have HV_ : Hid (VA w x.1 (a.cells x.2) 85) := (h.acs i a x hi.a hi.x).1
 have HA_ : Hid (AM KI encI w x.2 a.hs) := (h.acs i a x hi.a hi.x).2
 have HF := hI_ ((h.awf hi).freedA h0)
 have g0 := (h.awf hi).held.1
 have g1 := (h.awf hi).held.2
 have n1 : 1 ≤ n := hv.2.1
 have n2 : n ≤ 10000000000000 := hv.2.2
 have HM : Hid (MD w B F M) := h
 have HI : Hid (IsA F M i a x) := hi
 have HK : Hid (I64 k) := ⟨by have := hv.1.1; simp only at this; omega, by have := hv.1.2; simp only at this; omega⟩
 have HLK := hI_ h0
 have HNE : Hid (x.1 ≠ x.2) := HV_.out.neM HA_.out.isMap
 have BB_ := hI_ (Below.refl w.heap.size w)
 clear h hi h0 hv
 go_enter func89, ntmps89
 go_upto_region 0 with fail
 refine wp_region_noPanic ?_
 refine wp_region_held_drew (S := fun V => (∃ u : PA, VA V x.1 (u.cells x.2) 85) ∧ AM KI encI V x.2 a.hs) (by kernel_rfl) (⟨⟨a, HV_.out.drew⟩, HA_.out.step (Below.refl _ _).drew⟩) ?_
 intro hh_
 have bz := (Below.refl w.heap.size w).drew
 have HV_z := hI_ (HV_.out.step bz)
 have HA_z := hI_ (HA_.out.step bz)
 have BB_z := hI_ (BB_.out.trans (bz.mono BB_.out.size))
 generalize w.drew = wz at *
 clear bz
 refine tL 0 4 (.pointer (some ⟨x.1, 0, none⟩)) ?_ ?_
 ·intro wq hS
  go_simp
 try simp only [nrm]
 refine tL 1 5 (.pointer (some ⟨x.1, 0, none⟩)) ?_ ?_
 ·intro wq hS
  go_simp
 try simp only [nrm]
 refine tL 2 6 (.pointer (some ⟨x.1, 0, none⟩)) ?_ ?_
 ·intro wq hS
  go_simp
 try simp only [nrm]
 refine tL 3 7 (.pointer (some ⟨x.1, 6, none⟩)) ?_ ?_
 ·intro wq hS
  go_simp
 try simp only [nrm]
 refine tL 5 9 (.pointer (some ⟨x.1, 0, none⟩)) ?_ ?_
 ·intro wq hS
  go_simp
 try simp only [nrm]
 refine tL 6 10 (.pointer (some ⟨x.1, 0, none⟩)) ?_ ?_
 ·intro wq hS
  go_simp
 try simp only [nrm]
 refine tL 7 11 (.pointer (some ⟨x.1, 8, none⟩)) ?_ ?_
 ·intro wq hS
  go_simp
 try simp only [nrm]
 refine tL 8 12 (.map (some x.2)) ?_ ?_
 ·intro wq hS
  obtain ⟨u, hu⟩ := hS.1
  have c := VA.cell hu 8 (v := .map (some x.2)) rfl
  go_simp
 try simp only [nrm]
 refine tL 9 13 (.int .i64 k) ?_ ?_
 ·intro wq hS
  go_simp
 try simp only [nrm]
 refine tL 10 14 (.int .i64 n) ?_ ?_
 ·intro wq hS
  have c := jx hS.2 HK.out
  rw [HLK.out] at c
  go_simp
 try simp only [nrm]
 have c6 := HV_z.out.cell 6 (v := .int .i64 a.held) rfl
 clear hh_
 refine rdy 4 (fun K hK => ?_)
 go_simp
 refine hK.out _ _ ⟨⟨a, HV_z.out⟩, HA_z.out⟩ (fun hh_ => ?_)
 try simp only [nrm]
 clear hK K
 refine tL 11 15 (.int .i64 (a.held - n)) ?_ ?_
 ·intro wq hS
  go_simp
  try (rw [IntKind.wrap_i64]; omega)
 try simp only [nrm]
 refine tL 12 16 (.pointer (some ⟨x.1, 0, none⟩)) ?_ ?_
 ·intro wq hS
  go_simp
 try simp only [nrm]
 refine tL 13 17 (.pointer (some ⟨x.1, 0, none⟩)) ?_ ?_
 ·intro wq hS
  go_simp
 try simp only [nrm]
 refine tL 14 18 (.pointer (some ⟨x.1, 6, none⟩)) ?_ ?_
 ·intro wq hS
  go_simp
 try simp only [nrm]
 have f6 := HV_z.out.free 6
 have hbk := HV_z.out.blk
 have HV_y : Hid (VA (wz.setCell ⟨x.1, 6, none⟩ (.int .i64 (a.held - n))) x.1 (({ a with held := a.held - n } : PA).cells x.2) 85) := HV_z.out.set 6 (.int .i64 (a.held - n))
 have HU_y := hI_ (au wz x.1 6 (.int .i64 (a.held - n)))
 have HA_y := hI_ (HA_z.out.but HU_y.out.but (fun e => HNE.out e.symm))
 clear hh_
 refine rdy 15 (fun K hK => ?_)
 go_simp
 refine hK.out _ _ ⟨⟨_, HV_y.out⟩, HA_y.out⟩ (fun hh_ => ?_)
 try simp only [nrm]
 clear hK K
 refine dN ?_
 clear hh_ c6 f6 hbk
 generalize wz.setCell ⟨x.1, 6, none⟩ (.int .i64 (a.held - n)) = wy at *
 have c8 := HV_y.out.cell 8 (v := .map (some x.2)) rfl
 go_wp2_with (refine yp rfl _ _ KI 83 rfl encI 2 underlying83 x.2 a.hs (by rfl) HA_y.out k (by rfl) HK.out ?_; intro w1 am tn)
 have HB : Hid (But (fun j => j = x.1 ∨ j = x.2) w w1) := ((ac BB_z.out (fun j => j = x.1 ∨ j = x.2)).trans HU_y.out.but (fun j _ hj => Or.inl hj)).trans (aI tn) (fun j _ hj => Or.inr hj)
 have HV_1 : Hid (VA w1 x.1 ((freedA a k n).cells x.2) 85) := HV_y.out.but (aI tn) HNE.out
 exact bodyPost_end (v := .tuple #[]) (by simp [results, results89, go_sem]) rfl ⟨rfl, HM.out.setA HI.out HB.out HV_1.out am HF.out rfl, HB.out⟩
theorem dU {w : World} {p : Nat} {cs : List Value} {T : TypeId} (h : VA w p cs T) (h1 : T ≠ 100 ∧ T ≠ 85 ∧ T ≠ 81 ∧ T ≠ 144 ∧ T ≠ 154 ∧ T ≠ 208 ∧ T ≠ 102) : Fo w p := ⟨_, _, _, h.blk, h1⟩
theorem rx (w : World) (B : Nat) (F : FB) (M : PM) (hM : MD w B F M) (rp : Nat) (l id p : Int) (h : RO w rp F.pm l) :
  Calls prog 111 #[.pointer (some ⟨rp, 0, none⟩), .int .i64 id, .int .i64 p] w fun r w' => r = .returned (.tuple #[]) ∧ RO w' rp F.pm (openL M l id p) ∧ But (fun i => i = rp) w w' := by
 have HR_0 : Hid (RO w rp F.pm l) := h
 have HM_0 : Hid (MD w B F M) := hM
 have HB_0 : Hid (But (fun i => i = rp) w w) := But.refl _ _
 obtain ⟨er, her⟩ : ∃ er : Int, er = if (verO M p).isSome then 0 else 7 := ⟨_, rfl⟩
 have HER : Hid (er = if (verO M p).isSome then 0 else 7) := her
 obtain ⟨sa, sc, hsv, hsc, hsc2⟩ := hM.form
 obtain ⟨nn, hnn⟩ : ∃ n, n = M.al.length := ⟨_, rfl⟩
 have HN0 : Hid (nn = M.al.length) := hnn
 have HSV : Hid (F.sv = .slice sa nn sc) := (by rw [hnn]; exact hsv)
 clear h hM her hsv hsc hsc2 hnn
 go_enter func111, ntmps111
 go_wp2_with fail
 refine Calls.mono (bK w rp F.pm _ id 1000000000 HR_0.out) ?_
 rintro r w1 ⟨rfl, h1, h2⟩
 have HR_1 : Hid (RO _ _ _ _) := h1
 have HB_1 : Hid (But (fun i => i = rp) w w1) := HB_0.out.trans h2 (fun i _ hx => hx)
 have HM_1 : Hid (MD w1 B F M) := HM_0.out.ro HR_0.out h2
 clear h1 h2 HR_0 HB_0 HM_0
 go_upto_region 1 with fail
 have BB_1 := hI_ (Below.refl w1.heap.size w1)
 refine wp_region_noPanic ?_
 refine wp_region_held_drew (S := fun V => (∃ z : Int, VA V rp [.pointer (some ⟨F.pm, 0, none⟩), .int .i64 z] 148) ∧ VA V F.pm (mcells F M) 100) (by kernel_rfl) (⟨⟨_, VA.drew HR_1.out⟩, VA.drew HM_1.out.va⟩) ?_
 intro hh_
 have bz := (Below.refl w1.heap.size w1).drew
 have HM_z := hI_ (HM_1.out.step bz)
 have HR_z := hI_ (HR_1.out.step bz)
 have BB_z := hI_ (BB_1.out.trans (bz.mono BB_1.out.size))
 generalize w1.drew = wz at *
 clear bz
 refine tL 0 12 (.pointer (some ⟨rp, 0, none⟩)) ?_ ?_
 ·intro wq hS
  go_simp
 try simp only [nrm]
 refine tL 1 13 (.pointer (some ⟨rp, 0, none⟩)) ?_ ?_
 ·intro wq hS
  go_simp
 try simp only [nrm]
 refine tL 2 14 (.pointer (some ⟨rp, 0, none⟩)) ?_ ?_
 ·intro wq hS
  go_simp
 try simp only [nrm]
 refine tL 3 15 (.pointer (some ⟨F.pm, 0, none⟩)) ?_ ?_
 ·intro wq hS
  obtain ⟨⟨z, hz⟩, _⟩ := hS
  have c := VA.cell hz 0 (v := .pointer (some ⟨F.pm, 0, none⟩)) rfl
  go_simp
 try simp only [nrm]
 refine tL 4 16 (.pointer (some ⟨F.pm, 0, none⟩)) ?_ ?_
 ·intro wq hS
  go_simp
 try simp only [nrm]
 refine tL 5 17 (.pointer (some ⟨F.pm, 1, none⟩)) ?_ ?_
 ·intro wq hS
  go_simp
 try simp only [nrm]
 refine tL 6 18 (.pointer (some ⟨F.pc, 0, none⟩)) ?_ ?_
 ·intro wq hS
  have c := VA.cell hS.2 1 (v := .pointer (some ⟨F.pc, 0, none⟩)) rfl
  go_simp
 try simp only [nrm]
 refine tL 7 19 (.int .i64 p) ?_ ?_
 ·intro wq hS
  go_simp
 try simp only [nrm]
 refine tL 8 20 (.pointer (some ⟨rp, 0, none⟩)) ?_ ?_
 ·intro wq hS
  go_simp
 try simp only [nrm]
 refine tL 9 21 (.pointer (some ⟨rp, 0, none⟩)) ?_ ?_
 ·intro wq hS
  go_simp
 try simp only [nrm]
 refine tL 10 22 (.pointer (some ⟨rp, 0, none⟩)) ?_ ?_
 ·intro wq hS
  go_simp
 try simp only [nrm]
 refine tL 11 23 (.pointer (some ⟨F.pm, 0, none⟩)) ?_ ?_
 ·intro wq hS
  obtain ⟨⟨z, hz⟩, _⟩ := hS
  have c := VA.cell hz 0 (v := .pointer (some ⟨F.pm, 0, none⟩)) rfl
  go_simp
 try simp only [nrm]
 refine tL 12 24 (.pointer (some ⟨F.pm, 0, none⟩)) ?_ ?_
 ·intro wq hS
  go_simp
 try simp only [nrm]
 refine tL 13 25 (.pointer (some ⟨F.pm, 0, none⟩)) ?_ ?_
 ·intro wq hS
  go_simp
 try simp only [nrm]
 refine tL 14 26 (.int .i64 M.day) ?_ ?_
 ·intro wq hS
  have c := VA.cell hS.2 0 (v := .int .i64 M.day) rfl
  go_simp
 try simp only [nrm]
 clear hh_
 refine wpAnyH_ready (rs := [15, 19]) (by kernel_rfl) (by simp) ?_
 refine AllReadyH.cons (by exact rfl) (fun K hK => ?_) (AllReadyH.cons (by exact rfl) (fun K hK => ?_) AllReadyH.nil)
 ·go_simp
  refine Calls.mono (d8 wz B F M HM_z.out p) ?_
  rintro e wa ⟨⟨v, rfl, o1⟩, ba⟩
  have HM_a := hI_ (HM_z.out.step ba)
  have HR_a := hI_ (HR_z.out.step ba)
  have BB_a := hI_ (BB_z.out.trans (ba.mono BB_z.out.size))
  rw [← HER.out]
  have OF : Hid (∃ a n c, v = .slice a n c) := by obtain ⟨a, c, e, _⟩ := o1.tr.form; exact ⟨a, _, c, e⟩
  clear o1 ba
  go_wp2_with fail
  refine hK.out _ _ (⟨⟨_, HR_a.out⟩, HM_a.out.va⟩) (fun hh_ => ?_)
  try simp only [nrm]
  clear hK K
  refine tL 16 11 (.tuple #[.agg ((ver M p).cells v).toArray, .int .i64 er]) ?_ ?_
  ·intro wq hS
   go_simp
  try simp only [nrm]
  refine tL 17 28 (.agg ((ver M p).cells v).toArray) ?_ ?_
  ·intro wq hS
   go_simp
  try simp only [nrm]
  refine tL 18 29 (.int .i64 er) ?_ ?_
  ·intro wq hS
   go_simp
  try simp only [nrm]
  clear hh_
  refine rdy 19 (fun K hK => ?_)
  go_simp
  have bb := (Below.refl wa.heap.size wa).alloc (Nat.le_refl _) (.cells #[.int .i64 0, .int .i64 0, .int .i64 0, .int .i64 0, .int .i64 0, .int .i64 0, .int .i64 0, .int .i64 0, .slice none 0 0] 162)
  have HM_b := hI_ (HM_a.out.step bb)
  have HR_b := hI_ (HR_a.out.step bb)
  have BB_b := hI_ (BB_a.out.trans (bb.mono BB_a.out.size))
  have HN_b := hI_ (aa wa ([.int .i64 0, .int .i64 0, .int .i64 0, .int .i64 0, .int .i64 0, .int .i64 0, .int .i64 0, .int .i64 0, .slice none 0 0] : List Value) 162)
  have QLqn : Hid (w1.heap.size ≤ wa.heap.size) := BB_a.out.size
  refine hK.out _ _ (⟨⟨_, HR_b.out⟩, HM_b.out.va⟩) (fun hh_ => ?_)
  try simp only [nrm]
  clear hK K bb
  generalize wa.alloc (.cells #[.int .i64 0, .int .i64 0, .int .i64 0, .int .i64 0, .int .i64 0, .int .i64 0, .int .i64 0, .int .i64 0, .slice none 0 0] 162) = wb at *
  generalize wa.heap.size = qn at *
  refine rdy 20 (fun K hK => ?_)
  refine dW (by rfl) rfl 162 _ _ rfl qn (by rfl) ([.int .i64 0, .int .i64 0, .int .i64 0, .int .i64 0, .int .i64 0, .int .i64 0, .int .i64 0, .int .i64 0, .slice none 0 0]) ((ver M p).cells v) (by rfl) 162 HN_b.out infoP rfl (bD _ OF.out) ?_
  intro wf vf uf
  have hfo : ∀ i, i = qn → Fo wb i := fun i hi => by rw [hi]; exact dU HN_b.out (by decide)
  have HR_2 : Hid (RO wf rp F.pm _) := VA.upd HR_b.out uf (VA.ne HR_b.out HN_b.out (by decide))
  have HM_2 : Hid (MD wf B F M) := HM_b.out.but uf.but hfo
  have HB_2 : Hid (But (fun i => i = rp) w wf) := (HB_1.out.trans (ac BB_b.out (fun i => i = rp)) (fun i _ hx => hx)).trans uf.but (fun i hi hx => by have h1 := HB_1.out.size; have h2 := QLqn.out; omega)
  refine hK.out _ _ ⟨⟨_, HR_2.out⟩, HM_2.out.va⟩ (fun hh_ => ?_)
  clear hK K uf vf hfo
  try simp only [nrm]
  refine tL 21 7 (.int .i64 er) ?_ ?_
  ·intro wq hS
   go_simp
  try simp only [nrm]
  refine dN ?_
  clear hh_
  generalize wf = w2 at *
  go_wp2_with fail
  refine Calls.mono (eO w2 rp F.pm _ er HR_2.out) ?_
  rintro r w3 ⟨rfl, h1, h2⟩
  have HR_3 : Hid (RO _ _ _ _) := h1
  have HB_3 : Hid (But (fun i => i = rp) w w3) := HB_2.out.trans h2 (fun i _ hx => hx)
  have HM_3 : Hid (MD w3 B F M) := HM_2.out.ro HR_2.out h2
  clear h1 h2 HR_2 HB_2 HM_2
  cases ha : acctO M id with
  | none =>
   have c0 := VA.cell HR_3.out 0 (v := .pointer (some ⟨F.pm, 0, none⟩)) rfl
   have hn := acctO_none.1 ha
   go_wp2_with fail
   refine (jr w3 B F M HM_3.out id hn).mono ?_
   rintro e wq ⟨rfl, hwq⟩
   obtain rfl := hwq.symm
   clear hwq hn
   go_wp2_with fail
   refine Calls.mono (ak w3 rp F.pm _ 8 _ HR_3.out) ?_
   rintro r w4 ⟨rfl, h1, h2⟩
   have HR_4 : Hid (RO _ _ _ _) := h1
   have HB_4 : Hid (But (fun i => i = rp) w w4) := HB_3.out.trans h2 (fun i _ hx => hx)
   have HM_4 : Hid (MD w4 B F M) := HM_3.out.ro HR_3.out h2
   clear h1 h2 HR_3 HB_3 HM_3  c0
   have c0 := VA.cell HR_4.out 0 (v := .pointer (some ⟨F.pm, 0, none⟩)) rfl
   have c2 := HM_4.out.va.cell 2 (v := F.sv) rfl
   rw [HSV.out] at c2
   go_wp2_with fail
   refine Calls.mono (ak w4 rp F.pm _ 17 _ HR_4.out) ?_
   rintro r w5 ⟨rfl, h1, h2⟩
   have HR_5 : Hid (RO _ _ _ _) := h1
   have HB_5 : Hid (But (fun i => i = rp) w w5) := HB_4.out.trans h2 (fun i _ hx => hx)
   have HM_5 : Hid (MD w5 B F M) := HM_4.out.ro HR_4.out h2
   clear h1 h2 HR_4 HB_4 HM_4  c2 c0
   go_wp2_with fail
   refine bodyPost_end (v := .tuple #[]) (by simp [results, results111, go_sem]) rfl ?_
   refine ⟨rfl, ?_, HB_5.out⟩
   have H := HR_5.out
   unfold openL
   rw [ha, ← HER.out, ← HN0.out]
   exact H
  | some a =>
   have c0 := VA.cell HR_3.out 0 (v := .pointer (some ⟨F.pm, 0, none⟩)) rfl
   obtain ⟨i, x, hi, hid, _⟩ := HM_3.out.acct ha
   have HF := hI_ (fun (_ : Unit) => fq w3 B F M HM_3.out hi)
   rw [hid] at HF
   clear hi hid
   go_wp2_with fail
   refine Calls.mono (HF.out ()) ?_
   rintro e wq ⟨rfl, hwq⟩
   obtain rfl := hwq.symm
   clear hwq HF
   go_wp2_with fail
   refine Calls.mono (ak w3 rp F.pm _ 8 _ HR_3.out) ?_
   rintro r w4 ⟨rfl, h1, h2⟩
   have HR_4 : Hid (RO _ _ _ _) := h1
   have HB_4 : Hid (But (fun i => i = rp) w w4) := HB_3.out.trans h2 (fun i _ hx => hx)
   have HM_4 : Hid (MD w4 B F M) := HM_3.out.ro HR_3.out h2
   clear h1 h2 HR_3 HB_3 HM_3  c0
   have c0 := VA.cell HR_4.out 0 (v := .pointer (some ⟨F.pm, 0, none⟩)) rfl
   have c2 := HM_4.out.va.cell 2 (v := F.sv) rfl
   rw [HSV.out] at c2
   go_wp2_with fail
   refine Calls.mono (ak w4 rp F.pm _ 17 _ HR_4.out) ?_
   rintro r w5 ⟨rfl, h1, h2⟩
   have HR_5 : Hid (RO _ _ _ _) := h1
   have HB_5 : Hid (But (fun i => i = rp) w w5) := HB_4.out.trans h2 (fun i _ hx => hx)
   have HM_5 : Hid (MD w5 B F M) := HM_4.out.ro HR_4.out h2
   clear h1 h2 HR_4 HB_4 HM_4  c2 c0
   go_wp2_with fail
   refine bodyPost_end (v := .tuple #[]) (by simp [results, results111, go_sem]) rfl ?_
   refine ⟨rfl, ?_, HB_5.out⟩
   have H := HR_5.out
   unfold openL
   rw [ha, ← HER.out, ← HN0.out]
   exact H
 ·go_simp
  have ba := (Below.refl wz.heap.size wz).alloc (Nat.le_refl _) (.cells #[.int .i64 0, .int .i64 0, .int .i64 0, .int .i64 0, .int .i64 0, .int .i64 0, .int .i64 0, .int .i64 0, .slice none 0 0] 162)
  have HM_a := hI_ (HM_z.out.step ba)
  have HR_a := hI_ (HR_z.out.step ba)
  have BB_a := hI_ (BB_z.out.trans (ba.mono BB_z.out.size))
  have HN_a := hI_ (aa wz ([.int .i64 0, .int .i64 0, .int .i64 0, .int .i64 0, .int .i64 0, .int .i64 0, .int .i64 0, .int .i64 0, .slice none 0 0] : List Value) 162)
  have QLqn : Hid (w1.heap.size ≤ wz.heap.size) := BB_z.out.size
  refine hK.out _ _ (⟨⟨_, HR_a.out⟩, HM_a.out.va⟩) (fun hh_ => ?_)
  try simp only [nrm]
  clear hK K ba
  generalize wz.alloc (.cells #[.int .i64 0, .int .i64 0, .int .i64 0, .int .i64 0, .int .i64 0, .int .i64 0, .int .i64 0, .int .i64 0, .slice none 0 0] 162) = wa at *
  generalize wz.heap.size = qn at *
  clear hh_
  refine rdy 15 (fun K hK => ?_)
  go_simp
  refine Calls.mono (d8 wa B F M HM_a.out p) ?_
  rintro e wb ⟨⟨v, rfl, o1⟩, bb⟩
  have HM_b := hI_ (HM_a.out.step bb)
  have HR_b := hI_ (HR_a.out.step bb)
  have HN_b := hI_ (HN_a.out.step bb)
  have BB_b := hI_ (BB_a.out.trans (bb.mono BB_a.out.size))
  rw [← HER.out]
  have OF : Hid (∃ a n c, v = .slice a n c) := by obtain ⟨a, c, e, _⟩ := o1.tr.form; exact ⟨a, _, c, e⟩
  clear o1 bb
  go_wp2_with fail
  refine hK.out _ _ (⟨⟨_, HR_b.out⟩, HM_b.out.va⟩) (fun hh_ => ?_)
  try simp only [nrm]
  clear hK K
  refine tL 16 11 (.tuple #[.agg ((ver M p).cells v).toArray, .int .i64 er]) ?_ ?_
  ·intro wq hS
   go_simp
  try simp only [nrm]
  refine tL 17 28 (.agg ((ver M p).cells v).toArray) ?_ ?_
  ·intro wq hS
   go_simp
  try simp only [nrm]
  refine tL 18 29 (.int .i64 er) ?_ ?_
  ·intro wq hS
   go_simp
  try simp only [nrm]
  refine rdy 20 (fun K hK => ?_)
  refine dW (by rfl) rfl 162 _ _ rfl qn (by rfl) ([.int .i64 0, .int .i64 0, .int .i64 0, .int .i64 0, .int .i64 0, .int .i64 0, .int .i64 0, .int .i64 0, .slice none 0 0]) ((ver M p).cells v) (by rfl) 162 HN_b.out infoP rfl (bD _ OF.out) ?_
  intro wf vf uf
  have hfo : ∀ i, i = qn → Fo wb i := fun i hi => by rw [hi]; exact dU HN_b.out (by decide)
  have HR_2 : Hid (RO wf rp F.pm _) := VA.upd HR_b.out uf (VA.ne HR_b.out HN_b.out (by decide))
  have HM_2 : Hid (MD wf B F M) := HM_b.out.but uf.but hfo
  have HB_2 : Hid (But (fun i => i = rp) w wf) := (HB_1.out.trans (ac BB_b.out (fun i => i = rp)) (fun i _ hx => hx)).trans uf.but (fun i hi hx => by have h1 := HB_1.out.size; have h2 := QLqn.out; omega)
  refine hK.out _ _ ⟨⟨_, HR_2.out⟩, HM_2.out.va⟩ (fun hh_ => ?_)
  clear hK K uf vf hfo
  try simp only [nrm]
  refine tL 21 7 (.int .i64 er) ?_ ?_
  ·intro wq hS
   go_simp
  try simp only [nrm]
  refine dN ?_
  clear hh_
  generalize wf = w2 at *
  go_wp2_with fail
  refine Calls.mono (eO w2 rp F.pm _ er HR_2.out) ?_
  rintro r w3 ⟨rfl, h1, h2⟩
  have HR_3 : Hid (RO _ _ _ _) := h1
  have HB_3 : Hid (But (fun i => i = rp) w w3) := HB_2.out.trans h2 (fun i _ hx => hx)
  have HM_3 : Hid (MD w3 B F M) := HM_2.out.ro HR_2.out h2
  clear h1 h2 HR_2 HB_2 HM_2
  cases ha : acctO M id with
  | none =>
   have c0 := VA.cell HR_3.out 0 (v := .pointer (some ⟨F.pm, 0, none⟩)) rfl
   have hn := acctO_none.1 ha
   go_wp2_with fail
   refine (jr w3 B F M HM_3.out id hn).mono ?_
   rintro e wq ⟨rfl, hwq⟩
   obtain rfl := hwq.symm
   clear hwq hn
   go_wp2_with fail
   refine Calls.mono (ak w3 rp F.pm _ 8 _ HR_3.out) ?_
   rintro r w4 ⟨rfl, h1, h2⟩
   have HR_4 : Hid (RO _ _ _ _) := h1
   have HB_4 : Hid (But (fun i => i = rp) w w4) := HB_3.out.trans h2 (fun i _ hx => hx)
   have HM_4 : Hid (MD w4 B F M) := HM_3.out.ro HR_3.out h2
   clear h1 h2 HR_3 HB_3 HM_3  c0
   have c0 := VA.cell HR_4.out 0 (v := .pointer (some ⟨F.pm, 0, none⟩)) rfl
   have c2 := HM_4.out.va.cell 2 (v := F.sv) rfl
   rw [HSV.out] at c2
   go_wp2_with fail
   refine Calls.mono (ak w4 rp F.pm _ 17 _ HR_4.out) ?_
   rintro r w5 ⟨rfl, h1, h2⟩
   have HR_5 : Hid (RO _ _ _ _) := h1
   have HB_5 : Hid (But (fun i => i = rp) w w5) := HB_4.out.trans h2 (fun i _ hx => hx)
   have HM_5 : Hid (MD w5 B F M) := HM_4.out.ro HR_4.out h2
   clear h1 h2 HR_4 HB_4 HM_4  c2 c0
   go_wp2_with fail
   refine bodyPost_end (v := .tuple #[]) (by simp [results, results111, go_sem]) rfl ?_
   refine ⟨rfl, ?_, HB_5.out⟩
   have H := HR_5.out
   unfold openL
   rw [ha, ← HER.out, ← HN0.out]
   exact H
  | some a =>
   have c0 := VA.cell HR_3.out 0 (v := .pointer (some ⟨F.pm, 0, none⟩)) rfl
   obtain ⟨i, x, hi, hid, _⟩ := HM_3.out.acct ha
   have HF := hI_ (fun (_ : Unit) => fq w3 B F M HM_3.out hi)
   rw [hid] at HF
   clear hi hid
   go_wp2_with fail
   refine Calls.mono (HF.out ()) ?_
   rintro e wq ⟨rfl, hwq⟩
   obtain rfl := hwq.symm
   clear hwq HF
   go_wp2_with fail
   refine Calls.mono (ak w3 rp F.pm _ 8 _ HR_3.out) ?_
   rintro r w4 ⟨rfl, h1, h2⟩
   have HR_4 : Hid (RO _ _ _ _) := h1
   have HB_4 : Hid (But (fun i => i = rp) w w4) := HB_3.out.trans h2 (fun i _ hx => hx)
   have HM_4 : Hid (MD w4 B F M) := HM_3.out.ro HR_3.out h2
   clear h1 h2 HR_3 HB_3 HM_3  c0
   have c0 := VA.cell HR_4.out 0 (v := .pointer (some ⟨F.pm, 0, none⟩)) rfl
   have c2 := HM_4.out.va.cell 2 (v := F.sv) rfl
   rw [HSV.out] at c2
   go_wp2_with fail
   refine Calls.mono (ak w4 rp F.pm _ 17 _ HR_4.out) ?_
   rintro r w5 ⟨rfl, h1, h2⟩
   have HR_5 : Hid (RO _ _ _ _) := h1
   have HB_5 : Hid (But (fun i => i = rp) w w5) := HB_4.out.trans h2 (fun i _ hx => hx)
   have HM_5 : Hid (MD w5 B F M) := HM_4.out.ro HR_4.out h2
   clear h1 h2 HR_4 HB_4 HM_4  c2 c0
   go_wp2_with fail
   refine bodyPost_end (v := .tuple #[]) (by simp [results, results111, go_sem]) rfl ?_
   refine ⟨rfl, ?_, HB_5.out⟩
   have H := HR_5.out
   unfold openL
   rw [ha, ← HER.out, ← HN0.out]
   exact H
theorem pZ (i o r : Nat) (a : Int) (w : World) (T : Cu w) (hi : i < 4) (ho : o < 4) (hr : 1 ≤ r ∧ r ≤ 1000000000000) (ha : ¬ (1 ≤ a ∧ a ≤ 10000000000000)) :
  Calls prog 75 #[.int .i64 i, .int .i64 o, .int .i64 r, .int .i64 a] w fun e w' => e = .returned (.tuple #[.int .i64 0, .agg zdl.toArray, .int .i64 1]) ∧ Below w.heap.size w w' := by
 have wr : wi r 1 1000000000000 = true := br (by omega) (by omega)
 have wa : wi a 1 10000000000000 = false := jb ha
 have VR_0 := hI_ (aa w zdl 44)
 have BB_0 := hI_ ((Below.refl w.heap.size w).alloc (Nat.le_refl _) (.cells zdl.toArray 44))
 have CU_0 := hI_ (T.alloc (.cells zdl.toArray 44))
 clear T hr ha
 go_enter func75, ntmps75
 go_wp2_with fail
 refine (cg i _ CU_0.out hi).mono ?_
 rintro e w7 ⟨rfl, hq⟩
 obtain rfl := hq.symm
 go_wp2_with fail
 refine (cg o _ CU_0.out ho).mono ?_
 rintro e w7 ⟨rfl, hq⟩
 obtain rfl := hq.symm
 go_wp2_with fail
 refine (ft r _).mono ?_
 rintro e w7 ⟨rfl, hq⟩
 obtain rfl := hq.symm
 rw [wr]
 go_wp2_with fail
 refine (dz a _).mono ?_
 rintro e w7 ⟨rfl, hq⟩
 obtain rfl := hq.symm
 rw [wa]
 clear wr wa
 go_wp2_with (refine stA rfl 44 _ _ rfl w.heap.size (by rfl) zdl zdl (by rfl) 44 VR_0.out aU rfl (by decide) ?_; intro wf vf uf)
 have hld := run_loadVar_row (P := prog) wf w.heap.size 44 44 _ (0, 0) _ vf.blk underlying44 rfl aU
 exact bodyPost_ret (v := .tuple #[.int .i64 0, .agg zdl.toArray, .int .i64 1]) (by simp [results, results75, asAddr, hld]) rfl ⟨rfl, uf.bel BB_0.out (Nat.le_refl _)⟩
def cvR (c u n r : Int) : Int × List Value × Int :=
 if 1 ≤ n ∧ n ≤ 10000000000000 then
  (if gt u.toNat (wor c.toNat n.toNat r.toNat) ≤ 10000000000000 then
   (if c = u then (0, zdl, 10) else ((gt u.toNat (wor c.toNat n.toNat r.toNat) : Nat), dcs (rsd u.toNat (wor c.toNat n.toNat r.toNat) : Nat) 12, 0))
  else (0, zdl, 4))
 else (0, zdl, 1)
def rateO (M : PM) (c u : Int) : Option Int := lkA M.rates (c, u)
def cvA (M : PM) (c u n : Int) : Int × List Value × Int := match rateO M c u with
 | none => (0, zdl, 7)
 | some r => cvR c u n r
theorem mL (c u n r : Int) : (cvR c u n r).2.1.length = 3 ∧ ∀ v ∈ (cvR c u n r).2.1, v.oneCell' = true := by
 have hz : zdl.length = 3 ∧ ∀ v ∈ zdl, v.oneCell' = true := ⟨rfl, by decide⟩
 unfold cvR
 split
 ·split
  ·split
   ·exact hz
   ·exact ⟨rfl, bI _ _⟩
  ·exact hz
 ·exact hz
theorem pY (c u n r : Int) (w : World) (T : Cu w) (hc : 0 ≤ c ∧ c ≤ 3) (hu : 0 ≤ u ∧ u ≤ 3) (hr : 1 ≤ r ∧ r ≤ 1000000000000) :
  Calls prog 75 #[.int .i64 c, .int .i64 u, .int .i64 r, .int .i64 n] w fun e w' => e = .returned (.tuple #[.int .i64 (cvR c u n r).1, .agg (cvR c u n r).2.1.toArray, .int .i64 (cvR c u n r).2.2]) ∧ Below w.heap.size w w' := by
 obtain ⟨i, rfl⟩ : ∃ i : Nat, c = (i : Int) := ⟨c.toNat, by omega⟩
 obtain ⟨o, rfl⟩ : ∃ i : Nat, u = (i : Int) := ⟨u.toNat, by omega⟩
 obtain ⟨s, rfl⟩ : ∃ i : Nat, r = (i : Int) := ⟨r.toNat, by omega⟩
 unfold cvR
 simp only [Int.toNat_natCast]
 by_cases h1 : 1 ≤ n ∧ n ≤ 10000000000000
 ·rw [if_pos h1]
  obtain ⟨a, rfl⟩ : ∃ i : Nat, n = (i : Int) := ⟨n.toNat, by omega⟩
  simp only [Int.toNat_natCast]
  by_cases h2 : gt o (wor i a s) ≤ 10000000000000
  ·rw [if_pos h2]
   by_cases h3 : (i : Int) = (o : Int)
   ·rw [if_pos h3]
    exact qa i o s a w T (by omega) (by omega) (by omega) (by omega) h2 (by omega)
   ·rw [if_neg h3]
    exact qb i o s a w T (by omega) (by omega) (by omega) (by omega) h2 (by omega)
  ·rw [if_neg h2]
   exact lS i o s a w T (by omega) (by omega) (by omega) (by omega) h2
 ·rw [if_neg h1]
  exact pZ i o s n w T (by omega) (by omega) (by omega) h1
theorem tj {w : World} {rm : Nat} {rs : List ((Int × Int) × Int)} (h : AM KR encI w rm rs) {c u : Int} (hc : I64 c) (hu : I64 u) : (Instr.lookup 94 (.map (some rm)) (.agg #[.int .i64 c, .int .i64 u]) true).run prog w = .ok (.tuple #[.int .i64 ((lkA rs (c, u)).getD 0), .bool (lkA rs (c, u)).isSome]) w := by
 have := h.look_ok (t := 94) (e := 2) underlying94 (z := .int .i64 0) (Tryz.zeroValue2 w) (a := (c, u)) ⟨hc, hu⟩
 rw [xJ] at this
 exact this
def rtE (o : Option Int) : Int := if o.isSome then 0 else 7
theorem kM (w : World) (B : Nat) (F : FB) (M : PM) (h : MD w B F M) (T : Cu w) (c u : Int) (hc : 0 ≤ c ∧ c ≤ 3) (hu : 0 ≤ u ∧ u ≤ 3) :
  Calls prog 21 #[.pointer (some ⟨F.pm, 0, none⟩), .int .i64 c, .int .i64 u] w fun e w' => e = .returned (.tuple #[.int .i64 ((rateO M c u).getD 0), .int .i64 (rtE (rateO M c u))]) ∧ w' = w := by
 have c3 := h.va.cell 3 (v := .map (some F.rm)) rfl
 have hlk := tj h.rts (c := c) (u := u) (by unfold I64; omega) (by unfold I64; omega)
 have hwc := br hc.1 hc.2
 have hwu := br hu.1 hu.2
 have HT : Hid (Cu w) := T
 unfold rateO rtE
 clear h T hc hu
 cases hl : lkA M.rates (c, u) with
 | none =>
  rw [hl] at hlk
  clear hl
  simp only [Option.getD_none, Option.isSome_none] at hlk ⊢
  go_enter func21, ntmps21
  go_wp2_with fail
  refine (cJ w HT.out c).mono ?_
  rintro e wq ⟨rfl, hwq⟩
  obtain rfl := hwq.symm
  rw [hwc]
  go_wp2_with fail
  refine (cJ w HT.out u).mono ?_
  rintro e wq ⟨rfl, hwq2⟩
  obtain rfl := hwq2.symm
  rw [hwu]
  clear hwc hwu hwq hwq2
  go_wp2_with fail
  go_ret2
  exact ⟨rfl, rfl⟩
 | some r =>
  rw [hl] at hlk
  clear hl
  simp only [Option.getD_some, Option.isSome_some, if_true] at hlk ⊢
  go_enter func21, ntmps21
  go_wp2_with fail
  refine (cJ w HT.out c).mono ?_
  rintro e wq ⟨rfl, hwq⟩
  obtain rfl := hwq.symm
  rw [hwc]
  go_wp2_with fail
  refine (cJ w HT.out u).mono ?_
  rintro e wq ⟨rfl, hwq2⟩
  obtain rfl := hwq2.symm
  rw [hwu]
  clear hwc hwu hwq hwq2
  go_wp2_with fail
  go_ret2
  exact ⟨rfl, rfl⟩
theorem fa (w : World) (B : Nat) (F : FB) (M : PM) (h : MD w B F M) (T : Cu w) (a b : PA) (q ha q2 hb : Nat) (n : Int) (hA : VA w q (a.cells ha) 85) (hC : VA w q2 (b.cells hb) 85) (hca : 0 ≤ a.cur ∧ a.cur ≤ 3) (hcb : 0 ≤ b.cur ∧ b.cur ≤ 3) :
  Calls prog 40 #[.pointer (some ⟨F.pm, 0, none⟩), .pointer (some ⟨q, 0, none⟩), .pointer (some ⟨q2, 0, none⟩), .int .i64 n] w fun e w' => e = .returned (.tuple #[.int .i64 (cvA M a.cur b.cur n).1, .agg (cvA M a.cur b.cur n).2.1.toArray, .int .i64 (cvA M a.cur b.cur n).2.2]) ∧ Below w.heap.size w w' := by
 have bb := (Below.refl w.heap.size w).alloc (Nat.le_refl _) (.cells #[.int .i64 0, .int .u64 0, .int .i64 0] 44)
 have BB_0 := hI_ bb
 have HM_0 := hI_ (h.step bb)
 have HT_0 : Hid (Cu _) := T.step bb
 have HA_0 := hI_ (hA.step bb)
 have HC_0 := hI_ (hC.step bb)
 have HV_0 : Hid (VA (w.alloc (.cells #[.int .i64 0, .int .u64 0, .int .i64 0] 44)) w.heap.size zdl 44) := aa w zdl 44
 have hrats := h.wf.rats
 clear bb T hA hC h
 unfold cvA
 cases hrt : rateO M a.cur b.cur with
 | none =>
  obtain ⟨rt, hro⟩ : ∃ x, (rateO M a.cur b.cur).getD 0 = x := ⟨_, rfl⟩
  obtain ⟨er, hre⟩ : ∃ x, rtE (rateO M a.cur b.cur) = x := ⟨_, rfl⟩
  obtain rfl : er = 7 := by rw [← hre, hrt]; rfl
  clear hrt hrats
  go_enter func40, ntmps40
  go_upto_region 1 with fail
  generalize hW : w.alloc (.cells #[.int .i64 0, .int .u64 0, .int .i64 0] 44) = w0 at *
  clear hW
  refine wp_region_noPanic ?_
  refine wp_region_held_drew (S := fun V => VA V q (a.cells ha) 85 ∧ VA V q2 (b.cells hb) 85) (by kernel_rfl) (⟨VA.drew HA_0.out, VA.drew HC_0.out⟩) ?_
  intro hh_
  have bz := (Below.refl w0.heap.size w0).drew
  have HM_z := hI_ (HM_0.out.step bz)
  have HA_z := hI_ (HA_0.out.step bz)
  have HC_z := hI_ (HC_0.out.step bz)
  have HV_z := hI_ (HV_0.out.step bz)
  have HT_z := hI_ (HT_0.out.step bz)
  have BB_z := hI_ (BB_0.out.trans (bz.mono BB_0.out.size))
  generalize w0.drew = wz at *
  clear bz
  refine tL 0 14 (.pointer (some ⟨F.pm, 0, none⟩)) ?_ ?_
  ·intro wq hS
   go_simp
  try simp only [nrm]
  refine tL 1 15 (.pointer (some ⟨q, 0, none⟩)) ?_ ?_
  ·intro wq hS
   go_simp
  try simp only [nrm]
  refine tL 2 16 (.pointer (some ⟨q, 0, none⟩)) ?_ ?_
  ·intro wq hS
   go_simp
  try simp only [nrm]
  refine tL 3 17 (.pointer (some ⟨q, 0, none⟩)) ?_ ?_
  ·intro wq hS
   go_simp
  try simp only [nrm]
  refine tL 4 18 (.pointer (some ⟨q, 2, none⟩)) ?_ ?_
  ·intro wq hS
   go_simp
  try simp only [nrm]
  refine tL 5 19 (.int .i64 a.cur) ?_ ?_
  ·intro wq hS
   have c := VA.cell hS.1 2 (v := .int .i64 a.cur) rfl
   go_simp
  try simp only [nrm]
  refine tL 6 20 (.pointer (some ⟨q2, 0, none⟩)) ?_ ?_
  ·intro wq hS
   go_simp
  try simp only [nrm]
  refine tL 7 21 (.pointer (some ⟨q2, 0, none⟩)) ?_ ?_
  ·intro wq hS
   go_simp
  try simp only [nrm]
  refine tL 8 22 (.pointer (some ⟨q2, 0, none⟩)) ?_ ?_
  ·intro wq hS
   go_simp
  try simp only [nrm]
  refine tL 9 23 (.pointer (some ⟨q2, 2, none⟩)) ?_ ?_
  ·intro wq hS
   go_simp
  try simp only [nrm]
  refine tL 10 24 (.int .i64 b.cur) ?_ ?_
  ·intro wq hS
   have c := VA.cell hS.2 2 (v := .int .i64 b.cur) rfl
   go_simp
  try simp only [nrm]
  clear hh_
  refine rdy 11 (fun K hK => ?_)
  go_simp
  refine Calls.mono (kM wz B F M HM_z.out HT_z.out a.cur b.cur hca hcb) ?_
  rintro e wq ⟨rfl, hwq⟩
  obtain rfl := hwq.symm
  clear hwq
  rw [hro, hre]
  go_wp2_with fail
  refine hK.out _ _ (⟨HA_z.out, HC_z.out⟩) (fun hh_ => ?_)
  try simp only [nrm]
  clear hK K
  refine tL 12 13 (.tuple #[.int .i64 rt, .int .i64 7]) ?_ ?_
  ·intro wq hS
   go_simp
  try simp only [nrm]
  refine tL 13 26 (.int .i64 rt) ?_ ?_
  ·intro wq hS
   go_simp
  try simp only [nrm]
  refine tL 14 27 (.int .i64 7) ?_ ?_
  ·intro wq hS
   go_simp
  try simp only [nrm]
  refine tL 15 11 (.int .i64 rt) ?_ ?_
  ·intro wq hS
   go_simp
  try simp only [nrm]
  refine tL 16 12 (.int .i64 7) ?_ ?_
  ·intro wq hS
   go_simp
  try simp only [nrm]
  refine dN ?_
  clear hh_
  go_wp2_with (refine stA rfl 44 _ _ rfl w.heap.size (by rfl) zdl zdl (by rfl) 44 HV_z.out aU rfl (by decide) ?_; intro wf vf uf)
  have hld := run_loadVar_row (P := prog) wf w.heap.size 44 44 _ (0, 0) _ vf.blk underlying44 rfl aU
  exact bodyPost_ret (v := .tuple #[.int .i64 0, .agg zdl.toArray, .int .i64 7]) (by simp [results, results40, asAddr, hld]) rfl ⟨rfl, uf.bel BB_z.out (Nat.le_refl _)⟩
 | some rt =>
  have hro : (rateO M a.cur b.cur).getD 0 = rt := by rw [hrt]; rfl
  obtain ⟨er, hre⟩ : ∃ x, rtE (rateO M a.cur b.cur) = x := ⟨_, rfl⟩
  obtain rfl : er = 0 := by rw [← hre, hrt]; rfl
  have hrr : 1 ≤ rt ∧ rt ≤ 1000000000000 := (hrats _ (gx hrt)).2.2
  dsimp only
  obtain ⟨gg, hgg⟩ : ∃ x, x = (cvR a.cur b.cur n rt).1 := ⟨_, rfl⟩
  obtain ⟨dd, hdd⟩ : ∃ x, x = (cvR a.cur b.cur n rt).2.1 := ⟨_, rfl⟩
  obtain ⟨ee, hee⟩ : ∃ x, x = (cvR a.cur b.cur n rt).2.2 := ⟨_, rfl⟩
  have HX : Hid (gg = (cvR a.cur b.cur n rt).1 ∧ dd = (cvR a.cur b.cur n rt).2.1 ∧ ee = (cvR a.cur b.cur n rt).2.2 ∧ dd.length = 3 ∧ ∀ v ∈ dd, v.oneCell' = true) := ⟨hgg, hdd, hee, by rw [hdd]; exact mL _ _ _ _⟩
  rw [← hgg, ← hdd, ← hee]
  clear hrt hrats hgg hdd hee
  go_enter func40, ntmps40
  go_upto_region 1 with fail
  generalize hW : w.alloc (.cells #[.int .i64 0, .int .u64 0, .int .i64 0] 44) = w0 at *
  clear hW
  refine wp_region_noPanic ?_
  refine wp_region_held_drew (S := fun V => VA V q (a.cells ha) 85 ∧ VA V q2 (b.cells hb) 85) (by kernel_rfl) (⟨VA.drew HA_0.out, VA.drew HC_0.out⟩) ?_
  intro hh_
  have bz := (Below.refl w0.heap.size w0).drew
  have HM_z := hI_ (HM_0.out.step bz)
  have HA_z := hI_ (HA_0.out.step bz)
  have HC_z := hI_ (HC_0.out.step bz)
  have HV_z := hI_ (HV_0.out.step bz)
  have HT_z := hI_ (HT_0.out.step bz)
  have BB_z := hI_ (BB_0.out.trans (bz.mono BB_0.out.size))
  generalize w0.drew = wz at *
  clear bz
  refine tL 0 14 (.pointer (some ⟨F.pm, 0, none⟩)) ?_ ?_
  ·intro wq hS
   go_simp
  try simp only [nrm]
  refine tL 1 15 (.pointer (some ⟨q, 0, none⟩)) ?_ ?_
  ·intro wq hS
   go_simp
  try simp only [nrm]
  refine tL 2 16 (.pointer (some ⟨q, 0, none⟩)) ?_ ?_
  ·intro wq hS
   go_simp
  try simp only [nrm]
  refine tL 3 17 (.pointer (some ⟨q, 0, none⟩)) ?_ ?_
  ·intro wq hS
   go_simp
  try simp only [nrm]
  refine tL 4 18 (.pointer (some ⟨q, 2, none⟩)) ?_ ?_
  ·intro wq hS
   go_simp
  try simp only [nrm]
  refine tL 5 19 (.int .i64 a.cur) ?_ ?_
  ·intro wq hS
   have c := VA.cell hS.1 2 (v := .int .i64 a.cur) rfl
   go_simp
  try simp only [nrm]
  refine tL 6 20 (.pointer (some ⟨q2, 0, none⟩)) ?_ ?_
  ·intro wq hS
   go_simp
  try simp only [nrm]
  refine tL 7 21 (.pointer (some ⟨q2, 0, none⟩)) ?_ ?_
  ·intro wq hS
   go_simp
  try simp only [nrm]
  refine tL 8 22 (.pointer (some ⟨q2, 0, none⟩)) ?_ ?_
  ·intro wq hS
   go_simp
  try simp only [nrm]
  refine tL 9 23 (.pointer (some ⟨q2, 2, none⟩)) ?_ ?_
  ·intro wq hS
   go_simp
  try simp only [nrm]
  refine tL 10 24 (.int .i64 b.cur) ?_ ?_
  ·intro wq hS
   have c := VA.cell hS.2 2 (v := .int .i64 b.cur) rfl
   go_simp
  try simp only [nrm]
  clear hh_
  refine rdy 11 (fun K hK => ?_)
  go_simp
  refine Calls.mono (kM wz B F M HM_z.out HT_z.out a.cur b.cur hca hcb) ?_
  rintro e wq ⟨rfl, hwq⟩
  obtain rfl := hwq.symm
  clear hwq
  rw [hro, hre]
  go_wp2_with fail
  refine hK.out _ _ (⟨HA_z.out, HC_z.out⟩) (fun hh_ => ?_)
  try simp only [nrm]
  clear hK K
  refine tL 12 13 (.tuple #[.int .i64 rt, .int .i64 0]) ?_ ?_
  ·intro wq hS
   go_simp
  try simp only [nrm]
  refine tL 13 26 (.int .i64 rt) ?_ ?_
  ·intro wq hS
   go_simp
  try simp only [nrm]
  refine tL 14 27 (.int .i64 0) ?_ ?_
  ·intro wq hS
   go_simp
  try simp only [nrm]
  refine tL 15 11 (.int .i64 rt) ?_ ?_
  ·intro wq hS
   go_simp
  try simp only [nrm]
  refine tL 16 12 (.int .i64 0) ?_ ?_
  ·intro wq hS
   go_simp
  try simp only [nrm]
  refine dN ?_
  clear hh_
  go_upto_region 4 with fail
  refine wp_region_noPanic ?_
  refine wp_region_held_drew (S := fun V => VA V q (a.cells ha) 85 ∧ VA V q2 (b.cells hb) 85) (by kernel_rfl) (⟨VA.drew HA_z.out, VA.drew HC_z.out⟩) ?_
  intro hh_
  have bk := (Below.refl wz.heap.size wz).drew
  have HM_k := hI_ (HM_z.out.step bk)
  have HA_k := hI_ (HA_z.out.step bk)
  have HC_k := hI_ (HC_z.out.step bk)
  have HV_k := hI_ (HV_z.out.step bk)
  have HT_k := hI_ (HT_z.out.step bk)
  have BB_k := hI_ (BB_z.out.trans (bk.mono BB_z.out.size))
  generalize wz.drew = wk at *
  clear bk
  refine tL 0 32 (.pointer (some ⟨q, 0, none⟩)) ?_ ?_
  ·intro wq hS
   go_simp
  try simp only [nrm]
  refine tL 1 33 (.pointer (some ⟨q, 0, none⟩)) ?_ ?_
  ·intro wq hS
   go_simp
  try simp only [nrm]
  refine tL 2 34 (.pointer (some ⟨q, 0, none⟩)) ?_ ?_
  ·intro wq hS
   go_simp
  try simp only [nrm]
  refine tL 3 35 (.pointer (some ⟨q, 2, none⟩)) ?_ ?_
  ·intro wq hS
   go_simp
  try simp only [nrm]
  refine tL 4 36 (.int .i64 a.cur) ?_ ?_
  ·intro wq hS
   have c := VA.cell hS.1 2 (v := .int .i64 a.cur) rfl
   go_simp
  try simp only [nrm]
  refine tL 5 37 (.pointer (some ⟨q2, 0, none⟩)) ?_ ?_
  ·intro wq hS
   go_simp
  try simp only [nrm]
  refine tL 6 38 (.pointer (some ⟨q2, 0, none⟩)) ?_ ?_
  ·intro wq hS
   go_simp
  try simp only [nrm]
  refine tL 7 39 (.pointer (some ⟨q2, 0, none⟩)) ?_ ?_
  ·intro wq hS
   go_simp
  try simp only [nrm]
  refine tL 8 40 (.pointer (some ⟨q2, 2, none⟩)) ?_ ?_
  ·intro wq hS
   go_simp
  try simp only [nrm]
  refine tL 9 41 (.int .i64 b.cur) ?_ ?_
  ·intro wq hS
   have c := VA.cell hS.2 2 (v := .int .i64 b.cur) rfl
   go_simp
  try simp only [nrm]
  refine tL 10 42 (.int .i64 rt) ?_ ?_
  ·intro wq hS
   go_simp
  try simp only [nrm]
  refine tL 11 43 (.int .i64 n) ?_ ?_
  ·intro wq hS
   go_simp
  try simp only [nrm]
  clear hh_
  refine rdy 12 (fun K hK => ?_)
  go_simp
  refine Calls.mono (pY a.cur b.cur n rt wk HT_k.out hca hcb hrr) ?_
  rintro e wx ⟨rfl, bx⟩
  have HM_x := hI_ (HM_k.out.step bx)
  have HA_x := hI_ (HA_k.out.step bx)
  have HC_x := hI_ (HC_k.out.step bx)
  have HV_x := hI_ (HV_k.out.step bx)
  have HT_x := hI_ (HT_k.out.step bx)
  have BB_x := hI_ (BB_k.out.trans (bx.mono BB_k.out.size))
  rw [← HX.out.1, ← HX.out.2.1, ← HX.out.2.2.1]
  clear bx
  go_wp2_with fail
  refine hK.out _ _ (⟨HA_x.out, HC_x.out⟩) (fun hh_ => ?_)
  try simp only [nrm]
  clear hK K
  refine tL 13 45 (.int .i64 gg) ?_ ?_
  ·intro wq hS
   go_simp
  try simp only [nrm]
  refine tL 14 46 (.agg dd.toArray) ?_ ?_
  ·intro wq hS
   go_simp
  try simp only [nrm]
  refine tL 15 47 (.int .i64 ee) ?_ ?_
  ·intro wq hS
   go_simp
  try simp only [nrm]
  refine tL 16 8 (.int .i64 gg) ?_ ?_
  ·intro wq hS
   go_simp
  try simp only [nrm]
  refine rdy 17 (fun K hK => ?_)
  refine dW (by rfl) rfl 44 _ _ rfl w.heap.size (by rfl) zdl dd (by rfl) 44 HV_x.out (by rw [HX.out.2.2.2.1]; exact aU) (by rw [HX.out.2.2.2.1]; rfl) HX.out.2.2.2.2 ?_
  intro wf vf uf
  refine hK.out _ _ ⟨HA_x.out.upd uf (HA_x.out.ne HV_x.out (by decide)), HC_x.out.upd uf (HC_x.out.ne HV_x.out (by decide))⟩ (fun hh_ => ?_)
  clear hK K
  try simp only [nrm]
  refine tL 18 10 (.int .i64 ee) ?_ ?_
  ·intro wq hS
   go_simp
  try simp only [nrm]
  refine dN ?_
  clear hh_
  go_wp2_with fail
  have hld := run_loadVar_row (P := prog) wf w.heap.size 44 44 _ (0, 0) _ vf.blk underlying44 rfl (by rw [show dd.toArray.size = dd.length by simp, HX.out.2.2.2.1]; exact aU)
  exact bodyPost_ret (v := .tuple #[.int .i64 gg, .agg dd.toArray, .int .i64 ee]) (by simp [results, results40, asAddr, hld]) rfl ⟨rfl, uf.bel BB_x.out (Nat.le_refl _)⟩
theorem OwnP.keepO {w w' : World} {B : Nat} {T : TypeId} {v : Value} {cs : List (PV × Value)} (h : OwnP w B T v cs) (k : KeepO w w') (h1 : T ≠ 208) (h2 : T ≠ 154) : OwnP w' B T v cs := by
 refine ⟨h.form, h.own.1, ?_⟩
 rcases h.own.2 with h3 | ⟨g, cap, cur, e, hb, hg, r⟩
 ·exact Or.inl h3
 ·exact Or.inr ⟨g, cap, cur, e, hb, k T h1 h2 g _ _ hg, r⟩
theorem OwnL.keepO {w w' : World} {B : Nat} {v : Value} {cs : List (PV × Value)} (h : OwnL w B v cs) (k : KeepO w w') : OwnL w' B v cs :=
 ⟨h.row.keepO k (by decide) (by decide), fun c hc => (h.tiers c hc).keepO k, h.apart⟩
theorem OwnL.step {w w' : World} {B : Nat} {v : Value} {cs : List (PV × Value)} (h : OwnL w B v cs) (k : Below w.heap.size w w') : OwnL w' B v cs := h.keepO (cm k)
theorem OwnL.at {w : World} {B : Nat} {a : Option Addr} {n c : Nat} {cs : List (PV × Value)} (h : OwnL w B (.slice a n c) cs) {k : Nat} {y : PV × Value} (hy : cs[k]? = some y) : ∃ g, a = some ⟨g, 0, none⟩ ∧ (∀ j u, (y.1.cells y.2)[j]? = some u → w.cell? ⟨g, k * 9 + j, none⟩ = some u) := by
 have ho := h.row.own
 have hl := (List.getElem?_eq_some_iff.1 hy).1
 rcases h.row.own.2 with ⟨e, h0⟩ | ⟨g, cap, cur, e, hb, hg, hcap, hcm, hcs, htk⟩
 ·rw [h0] at hl; omega
 ·cases e
  refine ⟨g, rfl, fun j u hj => ?_⟩
  have hj9 : j < 9 := by
   have := (List.getElem?_eq_some_iff.1 hj).1
   simpa [PV.len] using this
  have e1 := ho.cellAt (k * 9 + j) (by omega)
  rw [e1]
  refine tO cs k hl j u ?_
  obtain ⟨l1, e2⟩ := List.getElem?_eq_some_iff.1 hy
  rw [e2]
  exact hj
theorem nF (w : World) (B : Nat) (F : FB) (M : PM) (hM : MD w B F M) (x : PV) (hx : x.wf) (tv : Value) (R : Tr w tv x.ts) (hno : ∀ n c, tv = .slice none n c → c = 0) :
  Calls prog 110 #[.pointer (some ⟨F.pm, 0, none⟩), .agg (x.cells tv).toArray] w fun e w' => e = .returned (.int .i64 (addE M.vs x)) ∧ Below w.heap.size w w' := by
 have b0 := (Below.refl w.heap.size w).alloc (Nat.le_refl _) (.cells (x.cells tv).toArray 162)
 have HB0 := hI_ b0
 have HM0 : Hid (MD _ B F M) := hM.step b0
 have HV0 : Hid (VA (w.alloc (.cells (x.cells tv).toArray 162)) w.heap.size (x.cells tv) 162) := aa w (x.cells tv) 162
 have HTR : Hid (Tr w tv x.ts) := R
 have HNO : Hid (x.wf ∧ ∀ n c, tv = .slice none n c → c = 0) := ⟨hx, hno⟩
 have HADD : Hid (∀ (k : Nat) x, M.vs[k]? = some x → addE (M.vs.take k) x = 0) := hM.wf.adds
 have HTF : Hid (∃ a n c, tv = Value.slice a n c) := (show ∃ a n c, tv = Value.slice a n c from by obtain ⟨a, c, e, _⟩ := R.form; exact ⟨a, _, c, e⟩)
 clear hM R hx hno b0
 go_enter func110, ntmps110
 go_wp2_with fail
 generalize hW : w.alloc (.cells (x.cells tv).toArray 162) = w0 at *
 clear hW
 refine (qG w0).mono ?_
 rintro e w1 ⟨⟨p2, rfl, hc⟩, b1⟩
 have HC1 : Hid (Cat w1 p2 w0.heap.size (fun _ => False) []) := hc
 have HM1 : Hid (MD w1 B F M) := HM0.out.step b1
 have HV1 : Hid (VA w1 w.heap.size (x.cells tv) 162) := HV0.out.step b1
 have HB1 := hI_ (HB0.out.trans (b1.mono HB0.out.size))
 have hz0 : w.heap.size ≤ w0.heap.size := HB0.out.size
 clear hc b1 HM0 HV0 HB0
 generalize w0.heap.size = B2 at *
 have c1 := HM1.out.va.cell 1 (v := .pointer (some ⟨F.pc, 0, none⟩)) rfl
 go_wp2_with fail
 obtain ⟨S, hC⟩ := HM1.out.cat
 refine (th w1 hC).mono ?_
 rintro e w2 ⟨⟨lv, cs, rfl, hcs, hl⟩, b2⟩
 obtain ⟨la, lc, rfl, hlc, hlc2⟩ := hl.form
 have HWF : Hid (∀ y ∈ M.vs, y.wf) := hC.wf
 have HLN := hC.len
 have HL2 : Hid (OwnL w2 w1.heap.size (.slice la cs.length lc) cs) := hl
 have HC2 : Hid (Cat w2 p2 B2 (fun _ => False) []) := HC1.out.step b2
 have HV2 : Hid (VA w2 w.heap.size (x.cells tv) 162) := HV1.out.step b2
 have HB2 := hI_ (HB1.out.trans (b2.mono HB1.out.size))
 have HCS : Hid (cs.map (·.1) = M.vs) := hcs
 obtain ⟨N, hN⟩ : ∃ n, n = cs.length := ⟨_, rfl⟩
 have HN : Hid (N = cs.length) := hN
 have hN64 : N ≤ 64 := by rw [hN]; have := congrArg List.length hcs; rw [List.length_map] at this; omega
 rw [← hN] at HL2 hlc ⊢
 clear hcs hl b2 hC c1 HC1 HV1 HB1 HM1 hN HLN
 generalize w1.heap.size = B3 at *
 go_wp2_with fail
 go_loopw [15] (fun i wr => ∃ k : Nat, k ≤ N ∧ i = .int .i64 (k : Int) ∧ Hid (OwnL wr B3 (.slice la N lc) cs) ∧ Hid (∃ S, Cat wr p2 B2 S (M.vs.take k)) ∧ Hid (VA wr w.heap.size (x.cells tv) 162) ∧ Hid (Below w.heap.size w wr)) (fun i _ => N - (intOf i).toNat)
 case atStart => exact ⟨0, Nat.zero_le _, rfl, HL2.out, ⟨_, HC2.out⟩, HV2.out, HB2.out⟩
 case round =>
  clear HL2 HC2 HV2 HB2
  obtain ⟨k, hk, rfl, HL, HC, HV, HB⟩ := hrel
  by_cases hkn : k < N
  ·have dk : (k : Int) < (N : Int) := by omega
   have d0 : (0 : Int) ≤ (k : Int) := by omega
   obtain ⟨y, hy⟩ : ∃ y, cs[k]? = some y := ⟨_, List.getElem?_eq_getElem (by rw [← HN.out]; exact hkn)⟩
   obtain ⟨g, rfl, hcell⟩ := HL.out.at hy
   obtain ⟨y, yv⟩ := y
   dsimp only at hcell
   have hvy : M.vs[k]? = some y := by rw [← HCS.out, List.getElem?_map, hy]; rfl
   have hot := HL.out.tiers _ (List.mem_of_getElem? hy)
   have HY : Hid (OwnT wr B3 yv y.ts ∧ M.vs[k]? = some y) := ⟨hot, hvy⟩
   have HYF : Hid (∃ a n c, yv = Value.slice a n c) := hot.form
   have HCE : Hid (∀ j u, (y.cells yv)[j]? = some u → wr.cell? ⟨g, k * 9 + j, none⟩ = some u) := hcell
   have HS0 := hI_ (aa wr ([.int .i64 0, .int .i64 0, .int .i64 0, .int .i64 0, .int .i64 0, .int .i64 0, .int .i64 0, .int .i64 0, .slice none 0 0] : List Value) 162)
   clear hy hcell hvy hot
   have z0 : wr.cell? ⟨g, k * 9, none⟩ = some (.int .i64 y.id) := HCE.out 0 (.int .i64 y.id) rfl
   have z1 := HCE.out 1 (.int .i64 y.kind) rfl
   have z2 := HCE.out 2 (.int .i64 y.cur) rfl
   have z3 := HCE.out 3 (.int .i64 y.day) rfl
   have z4 := HCE.out 4 (.int .i64 y.basis) rfl
   have z5 := HCE.out 5 (.int .i64 y.mode) rfl
   have z6 := HCE.out 6 (.int .i64 y.fee) rfl
   have z7 := HCE.out 7 (.int .i64 y.lim) rfl
   have z8 := HCE.out 8 yv rfl
   go_upto_region 5 with (refine stA rfl 162 _ _ rfl wr.heap.size (by rfl) ([.int .i64 0, .int .i64 0, .int .i64 0, .int .i64 0, .int .i64 0, .int .i64 0, .int .i64 0, .int .i64 0, .slice none 0 0] : List Value) (y.cells yv) (by rfl) 162 HS0.out infoP rfl (bD y HYF.out) ?_; intro w6 hv6 hu6)
   have b6 : Below wr.heap.size wr w6 := hu6.bel ((Below.refl _ _).alloc (Nat.le_refl _) _) (Nat.le_refl _)
   have HL6 : Hid (OwnL w6 B3 (.slice (some ⟨g, 0, none⟩) N lc) cs) := HL.out.step b6
   have HC6 : Hid (∃ S, Cat w6 p2 B2 S (M.vs.take k)) := by obtain ⟨S, hC⟩ := HC.out; exact ⟨S, hC.step b6⟩
   have HV6 : Hid (VA w6 w.heap.size (x.cells tv) 162) := HV.out.step b6
   have HB6 : Hid (Below w.heap.size w w6) := HB.out.trans (b6.mono HB.out.size)
   have HY6 : Hid (OwnT w6 B3 yv y.ts ∧ M.vs[k]? = some y) := ⟨HY.out.1.step b6, HY.out.2⟩
   have HQ6 : Hid (VA w6 wr.heap.size (y.cells yv) 162) := hv6
   clear HS0 b6 hv6 hu6 z0 z1 z2 z3 z4 z5 z6 z7 z8 HL HC HV HB HY HCE
   generalize wr.heap.size = qn at *
   have qq0 := HQ6.out.cell 0 (v := .int .i64 y.id) rfl
   have qq1 := HQ6.out.cell 1 (v := .int .i64 y.kind) rfl
   have qq2 := HQ6.out.cell 2 (v := .int .i64 y.cur) rfl
   have qq3 := HQ6.out.cell 3 (v := .int .i64 y.day) rfl
   have qq4 := HQ6.out.cell 4 (v := .int .i64 y.basis) rfl
   have qq5 := HQ6.out.cell 5 (v := .int .i64 y.mode) rfl
   have qq6 := HQ6.out.cell 6 (v := .int .i64 y.fee) rfl
   have qq7 := HQ6.out.cell 7 (v := .int .i64 y.lim) rfl
   have qq8 := HQ6.out.cell 8 (v := yv) rfl
   go_wp2_with fail
   obtain ⟨S, hC⟩ := HC6.out
   refine (jZ y yv w6 hC (HWF.out y (List.mem_of_getElem? HY6.out.2)) HY6.out.1.tr HY6.out.1.nilcap).mono ?_
   rintro e w7 ⟨rfl, hcs, b7, k7⟩
   have hz := HADD.out k y HY6.out.2
   have HC7 := (show Hid (∃ S, Cat w7 p2 B2 S (M.vs.take (k + 1))) from by
    rcases hcs with ⟨_, h⟩ | ⟨h, _⟩
    ·rw [List.take_add_one, HY6.out.2]
     exact ⟨_, h⟩
    ·exact absurd hz h)
   have HL7 : Hid (OwnL w7 B3 (.slice (some ⟨g, 0, none⟩) N lc) cs) := HL6.out.keepO k7
   have HV7 : Hid (VA w7 w.heap.size (x.cells tv) 162) := HV6.out.keepO k7 (by decide) (by decide)
   have HB7 : Hid (Below w.heap.size w w7) := HB6.out.trans (b7.mono hz0)
   clear hcs b7 k7 hC hz qq0 qq1 qq2 qq3 qq4 qq5 qq6 qq7 qq8
   go_wp2_with fail
   go_roundw
   case rel => exact ⟨k + 1, by omega, by go_num, HL7.out, HC7.out, HV7.out, HB7.out⟩
   case measure => simp [intOf]; omega
  ·have dk : ¬ (k : Int) < (N : Int) := by omega
   obtain rfl : k = N := by omega
   have hvs : M.vs.take k = M.vs := List.take_of_length_le (by rw [← HCS.out, List.length_map, HN.out]; exact Nat.le_refl _)
   have v0 := HV.out.cell 0 (v := .int .i64 x.id) rfl
   have v1 := HV.out.cell 1 (v := .int .i64 x.kind) rfl
   have v2 := HV.out.cell 2 (v := .int .i64 x.cur) rfl
   have v3 := HV.out.cell 3 (v := .int .i64 x.day) rfl
   have v4 := HV.out.cell 4 (v := .int .i64 x.basis) rfl
   have v5 := HV.out.cell 5 (v := .int .i64 x.mode) rfl
   have v6 := HV.out.cell 6 (v := .int .i64 x.fee) rfl
   have v7 := HV.out.cell 7 (v := .int .i64 x.lim) rfl
   have v8 := HV.out.cell 8 (v := tv) rfl
   go_wp2_with fail
   obtain ⟨S, hC⟩ := HC.out
   rw [hvs] at hC
   refine (jZ x tv wr hC HNO.out.1 (HTR.out.step HB.out) HNO.out.2).mono ?_
   rintro e w3 ⟨rfl, _, b3, _⟩
   have HB3 : Hid (Below w.heap.size w w3) := HB.out.trans (b3.mono hz0)
   clear b3 hC v0 v1 v2 v3 v4 v5 v6 v7 v8
   go_wp2_with fail
   go_ret
   exact ⟨rfl, HB3.out⟩
def exchL (M : PM) (l a b n : Int) : Int := match acctO M a, acctO M b with
 | some x, some y => whn (wth (whn (namedK M (namedK M (whn (whn l (beyond n 10000000000000) 1) (a == b) 1) a 1) b 1) (fundsO M (some x) n) 13) (cvA M x.cur y.cur n).2.2) (roomO (some y) (cvA M x.cur y.cur n).1) 4
 | o, _ => whn (namedK M (namedK M (whn (whn l (beyond n 10000000000000) 1) (a == b) 1) a 1) b 1) (fundsO M o n) 13
theorem sS (M : PM) (c u n : Int) : (cvA M c u n).2.1.length = 3 ∧ ∀ v ∈ (cvA M c u n).2.1, v.oneCell' = true := by
 unfold cvA
 cases rateO M c u with
 | none => exact ⟨rfl, (by decide : ∀ v ∈ zdl, v.oneCell' = true)⟩
 | some r => exact mL c u n r
theorem rk (w : World) (B : Nat) (F : FB) (M : PM) (hM : MD w B F M) (rp : Nat) (l a b n : Int) (h : RO w rp F.pm l) (T : TBL w) (hrp : 6 ≤ rp) :
  Calls prog 123 #[.pointer (some ⟨rp, 0, none⟩), .int .i64 a, .int .i64 b, .int .i64 n] w fun r w' => r = .returned (.tuple #[]) ∧ RO w' rp F.pm (exchL M l a b n) ∧ But (fun i => i = rp) w w' := by
 have HR_0 : Hid (RO w rp F.pm l) := h
 have HM_0 : Hid (MD w B F M) := hM
 have HB_0 : Hid (But (fun i => i = rp) w w) := But.refl _ _
 have HT : Hid (TBL w) := T
 have HRP : Hid (6 ≤ rp) := hrp
 clear h hM T hrp
 go_enter func123, ntmps123
 go_wp2_with fail
 refine Calls.mono (bJ w rp F.pm _ n HR_0.out) ?_
 rintro r w1 ⟨rfl, h1, h2⟩
 have HR_1 : Hid (RO _ _ _ _) := h1
 have HB_1 : Hid (But (fun i => i = rp) w w1) := HB_0.out.trans h2 (fun i _ hx => hx)
 have HM_1 : Hid (MD w1 B F M) := HM_0.out.ro HR_0.out h2
 clear h1 h2 HR_0 HB_0 HM_0
 go_wp2_with fail
 refine Calls.mono (ak w1 rp F.pm _ 1 _ HR_1.out) ?_
 rintro r w2 ⟨rfl, h1, h2⟩
 have HR_2 : Hid (RO _ _ _ _) := h1
 have HB_2 : Hid (But (fun i => i = rp) w w2) := HB_1.out.trans h2 (fun i _ hx => hx)
 have HM_2 : Hid (MD w2 B F M) := HM_1.out.ro HR_1.out h2
 clear h1 h2 HR_1 HB_1 HM_1
 go_wp2_with fail
 refine Calls.mono (bo w2 B F M HM_2.out rp _ a 1 HR_2.out) ?_
 rintro r w3 ⟨R1, rfl, eR1, fR1, h1, h2⟩
 have HR_3 : Hid (RO _ _ _ _) := h1
 have HB_3 : Hid (But (fun i => i = rp) w w3) := HB_2.out.trans h2 (fun i _ hx => hx)
 have HM_3 : Hid (MD w3 B F M) := HM_2.out.ro HR_2.out h2
 have FR1_3 : Hid (RF w3 R1) := fR1
 have ER1 : Hid (_ = _) := eR1
 clear eR1 fR1 h1 h2 HR_2 HB_2 HM_2
 go_wp2_with fail
 refine Calls.mono (bo w3 B F M HM_3.out rp _ b 1 HR_3.out) ?_
 rintro r w4 ⟨R2, rfl, eR2, fR2, h1, h2⟩
 have HR_4 : Hid (RO _ _ _ _) := h1
 have HB_4 : Hid (But (fun i => i = rp) w w4) := HB_3.out.trans h2 (fun i _ hx => hx)
 have HM_4 : Hid (MD w4 B F M) := HM_3.out.ro HR_3.out h2
 have FR1_4 : Hid (RF w4 _) := FR1_3.out.ro HR_3.out h2
 have FR2_4 : Hid (RF w4 R2) := fR2
 have ER2 : Hid (_ = _) := eR2
 clear eR2 fR2 h1 h2 HR_3 HB_3 HM_3 FR1_3
 go_wp2_with fail
 refine Calls.mono (de w4 B F M HM_4.out rp _ n R1 HR_4.out FR1_4.out) ?_
 rintro r w5 ⟨rfl, h1, h2⟩
 have HR_5 : Hid (RO _ _ _ _) := h1
 have HB_5 : Hid (But (fun i => i = rp) w w5) := HB_4.out.trans h2 (fun i _ hx => hx)
 have HM_5 : Hid (MD w5 B F M) := HM_4.out.ro HR_4.out h2
 have FR1_5 : Hid (RF w5 _) := FR1_4.out.ro HR_4.out h2
 have FR2_5 : Hid (RF w5 _) := FR2_4.out.ro HR_4.out h2
 clear h1 h2 HR_4 HB_4 HM_4 FR1_4 FR2_4
 cases R1 with
 | none =>
  rw [show pvR (none : AR) = .pointer none from rfl]
  go_wp2_with fail
  refine bodyPost_ret (v := .tuple #[]) (by simp [results, results123, go_sem]) rfl ?_
  refine ⟨rfl, ?_, HB_5.out⟩
  have H := HR_5.out
  rw [bQ] at H
  unfold exchL
  rw [← ER1.out]
  exact H
 | some x =>
  cases R2 with
  | none =>
   obtain ⟨c, aq, ah⟩ := x
   rw [show pvR (some (c, aq, ah) : AR) = .pointer (some ⟨aq, 0, none⟩) from rfl, show pvR (none : AR) = .pointer none from rfl]
   go_wp2_with fail
   refine bodyPost_ret (v := .tuple #[]) (by simp [results, results123, go_sem]) rfl ?_
   refine ⟨rfl, ?_, HB_5.out⟩
   have H := HR_5.out
   rw [bQ] at H
   unfold exchL
   rw [← ER1.out, ← ER2.out]
   exact H
  | some y =>
   obtain ⟨c, aq, ah⟩ := x
   obtain ⟨d, bq, bh⟩ := y
   rw [show pvR (some (c, aq, ah) : AR) = .pointer (some ⟨aq, 0, none⟩) from rfl, show pvR (some (d, bq, bh) : AR) = .pointer (some ⟨bq, 0, none⟩) from rfl]
   have c0 := VA.cell HR_5.out 0 (v := .pointer (some ⟨F.pm, 0, none⟩)) rfl
   obtain ⟨gg, hgg⟩ : ∃ z, z = (cvA M c.cur d.cur n).1 := ⟨_, rfl⟩
   obtain ⟨dd, hdd⟩ : ∃ z, z = (cvA M c.cur d.cur n).2.1 := ⟨_, rfl⟩
   obtain ⟨ee, hee⟩ : ∃ z, z = (cvA M c.cur d.cur n).2.2 := ⟨_, rfl⟩
   have HX : Hid (gg = (cvA M c.cur d.cur n).1 ∧ dd = (cvA M c.cur d.cur n).2.1 ∧ ee = (cvA M c.cur d.cur n).2.2 ∧ dd.length = 3 ∧ ∀ v ∈ dd, v.oneCell' = true) := ⟨hgg, hdd, hee, by rw [hdd]; exact sS _ _ _ _⟩
   clear hgg hdd hee
   go_wp2_with fail
   refine (fa w5 B F M HM_5.out (HT.out.but HB_5.out (fun i hi => by have := HRP.out; omega)).cu c d aq ah bq bh n FR1_5.out.1 FR2_5.out.1 FR1_5.out.2.2.cur FR2_5.out.2.2.cur).mono ?_
   rintro e wx ⟨rfl, bx⟩
   rw [← HX.out.1, ← HX.out.2.1, ← HX.out.2.2.1]
   have bx2 := bx.alloc (by exact bx.size) (.cells #[.int .i64 0, .int .u64 0, .int .i64 0] 44)
   have HVX : Hid (VA (wx.alloc (.cells #[.int .i64 0, .int .u64 0, .int .i64 0] 44)) wx.heap.size zdl 44) := aa wx zdl 44
   have HBX := hI_ bx2
   have hsx := bx.size
   clear bx bx2 c0
   go_wp2_with (refine stA rfl 44 _ _ rfl wx.heap.size (by rfl) zdl dd (by rfl) 44 HVX.out (by rw [HX.out.2.2.2.1]; exact aU) (by rw [HX.out.2.2.2.1]; rfl) HX.out.2.2.2.2 ?_; intro wf vf uf; have bf := uf.bel HBX.out hsx; have HR_6 := (show Hid (RO wf rp F.pm _) from HR_5.out.step bf); have HM_6 := (show Hid (MD wf B F M) from HM_5.out.step bf); have HB_6 := (show Hid (But (fun i => i = rp) w wf) from HB_5.out.trans (ac bf (fun i => i = rp)) (fun i _ hx => hx)); have FR1_6 := (show Hid (RF wf _) from FR1_5.out.step bf); have FR2_6 := (show Hid (RF wf _) from FR2_5.out.step bf); clear vf uf bf HVX HBX)

   refine Calls.mono (eO wf rp F.pm _ ee HR_6.out) ?_
   rintro r w7 ⟨rfl, h1, h2⟩
   have HR_7 : Hid (RO _ _ _ _) := h1
   have HB_7 : Hid (But (fun i => i = rp) w w7) := HB_6.out.trans h2 (fun i _ hx => hx)
   have HM_7 : Hid (MD w7 B F M) := HM_6.out.ro HR_6.out h2
   have FR2_7 : Hid (RF w7 _) := FR2_6.out.ro HR_6.out h2
   clear h1 h2
   go_wp2_with fail
   refine Calls.mono (gA w7 rp F.pm _ gg (some (d, bq, bh)) HR_7.out FR2_7.out) ?_
   rintro r w8 ⟨rfl, h1, h2⟩
   have HR_8 : Hid (RO _ _ _ _) := h1
   have HB_8 : Hid (But (fun i => i = rp) w w8) := HB_7.out.trans h2 (fun i _ hx => hx)
   have HM_8 : Hid (MD w8 B F M) := HM_7.out.ro HR_7.out h2
   have FR2_8 : Hid (RF w8 _) := FR2_7.out.ro HR_7.out h2
   clear h1 h2
   go_wp2_with fail
   refine bodyPost_end (v := .tuple #[]) (by simp [results, results123, go_sem]) rfl ?_
   refine ⟨rfl, ?_, HB_8.out⟩
   have H := HR_8.out
   rw [bQ, fE, HX.out.1, HX.out.2.2.1] at H
   unfold exchL
   rw [← ER1.out, ← ER2.out]
   exact H
structure EV where
 op : Nat
 key : Nat
 n0 : Int
 n1 : Int
 n2 : Int
 n3 : Int
 n4 : Int
 n5 : Int
 n6 : Int
 n7 : Int
 ts : List (Int × Int)
def EV.cells (e : EV) (tv : Value) : List Value := [.int .u8 (e.op : Int), .int .u64 (e.key : Int), .int .i64 e.n0, .int .i64 e.n1, .int .i64 e.n2, .int .i64 e.n3, .int .i64 e.n4, .int .i64 e.n5, .int .i64 e.n6, .int .i64 e.n7, tv]
def EV.e8 (e : EV) : E8 := ⟨e.op, e.key, [e.n0, e.n1, e.n2, e.n3, e.n4, e.n5, e.n6, e.n7], e.ts⟩
structure EV.ok (e : EV) : Prop where
 op : e.op ≤ 255
 key : e.key ≤ 18446744073709551615
 n0 : I64 e.n0
 n1 : I64 e.n1
 n2 : I64 e.n2
 n3 : I64 e.n3
 n4 : I64 e.n4
 n5 : I64 e.n5
 n6 : I64 e.n6
 n7 : I64 e.n7
theorem EV.ok8 {e : EV} (h : e.ok) : e.e8.ok := ⟨h.op, h.key, rfl, fun n hn => by
 unfold EV.e8 at hn
 simp at hn
 rcases hn with rfl | rfl | rfl | rfl | rfl | rfl | rfl | rfl
 ·exact h.n0
 ·exact h.n1
 ·exact h.n2
 ·exact h.n3
 ·exact h.n4
 ·exact h.n5
 ·exact h.n6
 ·exact h.n7⟩
theorem EV.one (e : EV) {tv : Value} (h : ∃ a n c, tv = Value.slice a n c) : ∀ v ∈ e.cells tv, v.oneCell' = true := by
 obtain ⟨a, n, c, rfl⟩ := h
 intro v hv
 unfold EV.cells at hv
 simp at hv
 rcases hv with rfl | rfl | rfl | rfl | rfl | rfl | rfl | rfl | rfl | rfl | rfl <;> rfl
theorem aj : (prog.info? 31).map (·.size) = some 11 := by kernel_rfl
def EV.pv (e : EV) : PV := ⟨e.n0, e.n1, e.n2, e.n3, e.n4, e.n5, e.n6, e.n7, e.ts⟩
theorem EV.pvwf {e : EV} (h : e.ok) : e.pv.wf := ⟨h.n0, h.n1, h.n2, h.n3, h.n4, h.n5, h.n6, h.n7⟩
def ofDay (op : Nat) : Bool := decide (op = 13 ∨ op = 14 ∨ op = 15)
theorem dj (op : Nat) (w : World) : Calls prog 52 #[.int .u8 (op : Int)] w fun e w' => e = .returned (.bool (ofDay op)) ∧ w' = w := by
 unfold ofDay
 by_cases h1 : op = 13
 ·subst h1
  go_enter func52, ntmps52
  go_wp2_with fail
  go_ret
  exact ⟨rfl, rfl⟩
 ·have e1 : ((op : Int) == 13) = false := by simpa using fun e : (op : Int) = 13 => h1 (by omega)
  by_cases h2 : op = 14
  ·subst h2
   go_enter func52, ntmps52
   go_wp2_with fail
   go_ret
   exact ⟨rfl, rfl⟩
  ·have e2 : ((op : Int) == 14) = false := by simpa using fun e : (op : Int) = 14 => h2 (by omega)
   by_cases h3 : op = 15
   ·subst h3
    go_enter func52, ntmps52
    go_wp2_with fail
    go_ret
    exact ⟨rfl, rfl⟩
   ·have e3 : ((op : Int) == 15) = false := by simpa using fun e : (op : Int) = 15 => h3 (by omega)
    rw [decide_eq_false (by rintro (h | h | h); exact h1 h; exact h2 h; exact h3 h)]
    clear h1 h2 h3
    go_enter func52, ntmps52
    go_wp2_with fail
    go_ret
    exact ⟨rfl, rfl⟩
theorem fJ (e : EV) (tv : Value) (w : World) (hF : ∃ a n c, tv = Value.slice a n c) : Calls prog 84 #[.agg (e.cells tv).toArray] w fun r w' => r = .returned (.agg (e.pv.cells tv).toArray) ∧ Below w.heap.size w w' := by
 have V := (aa w (e.cells tv) 31).alloc (.cells #[.int .i64 0, .int .i64 0, .int .i64 0, .int .i64 0, .int .i64 0, .int .i64 0, .int .i64 0, .int .i64 0, .slice none 0 0] 162)
 have y0 := V.cell 2 (v := .int .i64 e.n0) rfl
 have y1 := V.cell 3 (v := .int .i64 e.n1) rfl
 have y2 := V.cell 4 (v := .int .i64 e.n2) rfl
 have y3 := V.cell 5 (v := .int .i64 e.n3) rfl
 have y4 := V.cell 6 (v := .int .i64 e.n4) rfl
 have y5 := V.cell 7 (v := .int .i64 e.n5) rfl
 have y6 := V.cell 8 (v := .int .i64 e.n6) rfl
 have y7 := V.cell 9 (v := .int .i64 e.n7) rfl
 have y10 := V.cell 10 (v := tv) rfl
 have hv := aa (w.alloc (.cells (e.cells tv).toArray 31)) [.int .i64 0, .int .i64 0, .int .i64 0, .int .i64 0, .int .i64 0, .int .i64 0, .int .i64 0, .int .i64 0, .slice none 0 0] 162
 rw [World.size_alloc] at hv
 have HV := hI_ hv
 have HB := hI_ (((Below.refl w.heap.size w).alloc (Nat.le_refl _) (.cells (e.cells tv).toArray 31)).alloc (by simp) (.cells #[.int .i64 0, .int .i64 0, .int .i64 0, .int .i64 0, .int .i64 0, .int .i64 0, .int .i64 0, .int .i64 0, .slice none 0 0] 162))
 have HF : Hid (∃ a n c, tv = Value.slice a n c) := hF
 obtain ⟨ta, tn, tc, rfl⟩ := hF
 clear V hv
 go_enter func84, ntmps84
 go_wp2_with (refine stA rfl 162 _ _ rfl (w.heap.size + 1) (by rfl) _ (e.pv.cells (.slice ta tn tc)) (by rfl) 162 HV.out infoP rfl (bD _ ⟨_, _, _, rfl⟩) ?_; intro wf vf uf)
 have hld := run_loadVar_row (P := prog) wf (w.heap.size + 1) 162 162 _ (0, 0) _ vf.blk underlying162 rfl infoP
 exact bodyPost_ret (v := .agg (e.pv.cells (.slice ta tn tc)).toArray) (by simp [results, results84, asAddr, Act.put, hld]) rfl ⟨rfl, uf.bel HB.out (by omega)⟩
def EV.mv (e : EV) : Int := if e.op = 4 ∨ e.op = 5 then e.n1 else if e.op = 6 ∨ e.op = 9 ∨ e.op = 10 then e.n2 else if e.op = 12 then e.n3 else 0
theorem kL (e : EV) (tv : Value) (w : World) : Calls prog 41 #[.agg (e.cells tv).toArray] w fun r w' => r = .returned (.int .i64 e.mv) ∧ Below w.heap.size w w' := by
 have V := aa w (e.cells tv) 31
 have y0 := V.cell 0 (v := .int .u8 (e.op : Int)) rfl
 have y1 := V.cell 3 (v := .int .i64 e.n1) rfl
 have y2 := V.cell 4 (v := .int .i64 e.n2) rfl
 have y3 := V.cell 5 (v := .int .i64 e.n3) rfl
 have HB := hI_ ((Below.refl w.heap.size w).alloc (Nat.le_refl _) (.cells (e.cells tv).toArray 31))
 clear V
 unfold EV.mv
 generalize e.n1 = m1 at *
 generalize e.n2 = m2 at *
 generalize e.n3 = m3 at *
 obtain ⟨op, hop⟩ : ∃ op, op = e.op := ⟨_, rfl⟩
 rw [← hop] at y0 ⊢
 clear hop
 by_cases h4 : op = 4
 ·subst h4
  rw [show (if 4 = 4 ∨ 4 = 5 then m1 else if 4 = 6 ∨ 4 = 9 ∨ 4 = 10 then m2 else if 4 = 12 then m3 else 0 : Int) = m1 from rfl]
  go_enter func41, ntmps41
  go_wp2_with fail
  go_ret
  exact ⟨rfl, HB.out⟩
 ·have e4 : ((op : Int) == 4) = false := by simpa using fun e : (op : Int) = 4 => h4 (by omega)
  by_cases h5 : op = 5
  ·subst h5
   rw [show (if 5 = 4 ∨ 5 = 5 then m1 else if 5 = 6 ∨ 5 = 9 ∨ 5 = 10 then m2 else if 5 = 12 then m3 else 0 : Int) = m1 from rfl]
   go_enter func41, ntmps41
   go_wp2_with fail
   go_ret
   exact ⟨rfl, HB.out⟩
  ·have e5 : ((op : Int) == 5) = false := by simpa using fun e : (op : Int) = 5 => h5 (by omega)
   by_cases h6 : op = 6
   ·subst h6
    rw [show (if 6 = 4 ∨ 6 = 5 then m1 else if 6 = 6 ∨ 6 = 9 ∨ 6 = 10 then m2 else if 6 = 12 then m3 else 0 : Int) = m2 from rfl]
    go_enter func41, ntmps41
    go_wp2_with fail
    go_ret
    exact ⟨rfl, HB.out⟩
   ·have e6 : ((op : Int) == 6) = false := by simpa using fun e : (op : Int) = 6 => h6 (by omega)
    by_cases h9 : op = 9
    ·subst h9
     rw [show (if 9 = 4 ∨ 9 = 5 then m1 else if 9 = 6 ∨ 9 = 9 ∨ 9 = 10 then m2 else if 9 = 12 then m3 else 0 : Int) = m2 from rfl]
     go_enter func41, ntmps41
     go_wp2_with fail
     go_ret
     exact ⟨rfl, HB.out⟩
    ·have e9 : ((op : Int) == 9) = false := by simpa using fun e : (op : Int) = 9 => h9 (by omega)
     by_cases h10 : op = 10
     ·subst h10
      rw [show (if 10 = 4 ∨ 10 = 5 then m1 else if 10 = 6 ∨ 10 = 9 ∨ 10 = 10 then m2 else if 10 = 12 then m3 else 0 : Int) = m2 from rfl]
      go_enter func41, ntmps41
      go_wp2_with fail
      go_ret
      exact ⟨rfl, HB.out⟩
     ·have e10 : ((op : Int) == 10) = false := by simpa using fun e : (op : Int) = 10 => h10 (by omega)
      by_cases h12 : op = 12
      ·subst h12
       rw [show (if 12 = 4 ∨ 12 = 5 then m1 else if 12 = 6 ∨ 12 = 9 ∨ 12 = 10 then m2 else if 12 = 12 then m3 else 0 : Int) = m3 from rfl]
       go_enter func41, ntmps41
       go_wp2_with fail
       go_ret
       exact ⟨rfl, HB.out⟩
      ·have e12 : ((op : Int) == 12) = false := by simpa using fun e : (op : Int) = 12 => h12 (by omega)
       rw [if_neg (by omega), if_neg (by omega), if_neg (by omega)]
       clear h4 h5 h6 h9 h10 h12
       go_enter func41, ntmps41
       go_wp2_with fail
       go_ret
       exact ⟨rfl, HB.out⟩
def usedK (M : PM) (k : Nat) : Bool := (lkA M.keys k).isSome
theorem ti {w : World} {km : Nat} {ks : List (Nat × Unit)} (h : AM KU encS w km ks) {k : Nat} (hk : k ≤ 18446744073709551615) : (Instr.lookup 96 (.map (some km)) (.int .u64 (k : Int)) true).run prog w = .ok (.tuple #[.agg #[], .bool (lkA ks k).isSome]) w := by
 have := h.look_ok (t := 96) (e := 168) underlying96 (z := .agg #[]) (Tryz.zeroValue168 w) (a := k) (show k < 18446744073709551616 by omega)
 rw [show (Option.map encS (lkA ks k)).getD (.agg #[]) = .agg #[] by cases lkA ks k <;> rfl] at this
 exact this
theorem jS (w : World) (B : Nat) (F : FB) (M : PM) (h : MD w B F M) (k : Nat) (hk : k ≤ 18446744073709551615) :
  Calls prog 73 #[.pointer (some ⟨F.pm, 0, none⟩), .int .u64 (k : Int)] w fun r w' => r = .returned (.bool (usedK M k)) ∧ Below w.heap.size w w' := by
 have c5 := h.va.cell 5 (v := .map (some F.km)) rfl
 have hlk := ti h.kys hk
 unfold usedK
 have HB := hI_ (Below.refl w.heap.size w)
 generalize (lkA M.keys k).isSome = b at *
 clear h hk
 go_enter func73, ntmps73
 go_wp2_with fail
 go_ret
 refine ⟨rfl, ?_⟩
 exact HB.out.alloc (Nat.le_refl _) _
theorem vK : (prog.info? 28).map (·.size) = some 8 := by kernel_rfl
theorem qH (e : EV) : ∀ v ∈ ([.int .i64 e.n0, .int .i64 e.n1, .int .i64 e.n2, .int .i64 e.n3, .int .i64 e.n4, .int .i64 e.n5, .int .i64 e.n6, .int .i64 e.n7] : List Value), v.oneCell' = true := by
 intro v hv
 simp at hv
 rcases hv with rfl | rfl | rfl | rfl | rfl | rfl | rfl | rfl <;> rfl
theorem eTF {w : World} {v : Value} {ts : List (Int × Int)} (R : Tr w v ts) : Hid (∃ a n c, v = Value.slice a n c) := (show ∃ a n c, v = Value.slice a n c from by obtain ⟨a, c, e, _⟩ := R.form; exact ⟨a, _, c, e⟩)
theorem eY {w : World} {p : Nat} {e : EV} {tv : Value} {n : Nat} (z : Int) (h : Hid (VA w p (e.cells tv) 31)) (k : Hid (e.op = n)) (hz : (n : Int) = z := by rfl) : w.cell? ⟨p, 0, none⟩ = some (.int .u8 z) := by have := h.out.cell 0 (v := .int .u8 (e.op : Int)) rfl; rw [k.out, hz] at this; exact this
theorem cr (w : World) (e : EV) (tv : Value) : Hid (VA ((w.alloc (.cells (e.cells tv).toArray 31)).alloc (.cells #[.int .i64 0, .int .i64 0, .int .i64 0, .int .i64 0, .int .i64 0, .int .i64 0, .int .i64 0, .int .i64 0] 28)) w.heap.size (e.cells tv) 31) ∧ Hid (Below w.heap.size w ((w.alloc (.cells (e.cells tv).toArray 31)).alloc (.cells #[.int .i64 0, .int .i64 0, .int .i64 0, .int .i64 0, .int .i64 0, .int .i64 0, .int .i64 0, .int .i64 0] 28))) ∧ Hid (VA ((w.alloc (.cells (e.cells tv).toArray 31)).alloc (.cells #[.int .i64 0, .int .i64 0, .int .i64 0, .int .i64 0, .int .i64 0, .int .i64 0, .int .i64 0, .int .i64 0] 28)) (w.heap.size + 1) [.int .i64 0, .int .i64 0, .int .i64 0, .int .i64 0, .int .i64 0, .int .i64 0, .int .i64 0, .int .i64 0] 28) ∧ (w.alloc (.cells (e.cells tv).toArray 31)).cell? ⟨w.heap.size, 2, none⟩ = some (.int .i64 e.n0) ∧ (w.alloc (.cells (e.cells tv).toArray 31)).cell? ⟨w.heap.size, 3, none⟩ = some (.int .i64 e.n1) ∧ (w.alloc (.cells (e.cells tv).toArray 31)).cell? ⟨w.heap.size, 4, none⟩ = some (.int .i64 e.n2) ∧ (w.alloc (.cells (e.cells tv).toArray 31)).cell? ⟨w.heap.size, 5, none⟩ = some (.int .i64 e.n3) ∧ (w.alloc (.cells (e.cells tv).toArray 31)).cell? ⟨w.heap.size, 6, none⟩ = some (.int .i64 e.n4) ∧ (w.alloc (.cells (e.cells tv).toArray 31)).cell? ⟨w.heap.size, 7, none⟩ = some (.int .i64 e.n5) ∧ (w.alloc (.cells (e.cells tv).toArray 31)).cell? ⟨w.heap.size, 8, none⟩ = some (.int .i64 e.n6) ∧ (w.alloc (.cells (e.cells tv).toArray 31)).cell? ⟨w.heap.size, 9, none⟩ = some (.int .i64 e.n7) := by
 have b0 := (Below.refl w.heap.size w).alloc (Nat.le_refl _) (.cells (e.cells tv).toArray 31)
 have b1 := b0.alloc (by simp) (.cells #[.int .i64 0, .int .i64 0, .int .i64 0, .int .i64 0, .int .i64 0, .int .i64 0, .int .i64 0, .int .i64 0] 28)
 have V00 := aa w (e.cells tv) 31
 have V0 := V00.alloc (.cells #[.int .i64 0, .int .i64 0, .int .i64 0, .int .i64 0, .int .i64 0, .int .i64 0, .int .i64 0, .int .i64 0] 28)
 have hn0 := aa (w.alloc (.cells (e.cells tv).toArray 31)) ([.int .i64 0, .int .i64 0, .int .i64 0, .int .i64 0, .int .i64 0, .int .i64 0, .int .i64 0, .int .i64 0] : List Value) 28
 rw [World.size_alloc] at hn0
 have y0 := V00.cell 2 (v := .int .i64 e.n0) rfl
 have y1 := V00.cell 3 (v := .int .i64 e.n1) rfl
 have y2 := V00.cell 4 (v := .int .i64 e.n2) rfl
 have y3 := V00.cell 5 (v := .int .i64 e.n3) rfl
 have y4 := V00.cell 6 (v := .int .i64 e.n4) rfl
 have y5 := V00.cell 7 (v := .int .i64 e.n5) rfl
 have y6 := V00.cell 8 (v := .int .i64 e.n6) rfl
 have y7 := V00.cell 9 (v := .int .i64 e.n7) rfl
 exact ⟨V0, b1, hn0, y0, y1, y2, y3, y4, y5, y6, y7⟩
theorem eSt {w : World} {ops : Array Oper} {rest : List Oper} {o : Oper} {a : Act} {Q : Exit → Act → World → Prop} {p : Nat} {x y : Operand} (e : EV) (h : Hid (VA w p [.int .i64 0, .int .i64 0, .int .i64 0, .int .i64 0, .int .i64 0, .int .i64 0, .int .i64 0, .int .i64 0] 28)) (k : ∀ w', VA w' p [.int .i64 e.n0, .int .i64 e.n1, .int .i64 e.n2, .int .i64 e.n3, .int .i64 e.n4, .int .i64 e.n5, .int .i64 e.n6, .int .i64 e.n7] 28 → Upd p w w' → wpList prog ops Q rest (a.put o.dst undef) w') (hgd : o.guard = none := by rfl) (ho : o.op = .store 28 x y := by rfl) (hx : a.eval x = .pointer (some ⟨p, 0, none⟩) := by rfl) (hy : a.eval y = .agg #[.int .i64 e.n0, .int .i64 e.n1, .int .i64 e.n2, .int .i64 e.n3, .int .i64 e.n4, .int .i64 e.n5, .int .i64 e.n6, .int .i64 e.n7] := by rfl) : wpList prog ops Q (o :: rest) a w := stA hgd 28 x y ho p hx [.int .i64 0, .int .i64 0, .int .i64 0, .int .i64 0, .int .i64 0, .int .i64 0, .int .i64 0, .int .i64 0] [.int .i64 e.n0, .int .i64 e.n1, .int .i64 e.n2, .int .i64 e.n3, .int .i64 e.n4, .int .i64 e.n5, .int .i64 e.n6, .int .i64 e.n7] hy 28 h.out vK rfl (qH e) k
theorem wY (w : World) (B : Nat) (F : FB) (M : PM) (hM : MD w B F M) (rp : Nat) (l : Int) (h : RO w rp F.pm l) (e : EV) (he : e.ok) (tv : Value) (R : Tr w tv e.ts) (hno : ∀ n c, tv = .slice none n c → c = 0) (T : TBL w) (hrp : 6 ≤ rp) (hop : e.op = 1) :
  Calls prog 74 #[.pointer (some ⟨rp, 0, none⟩), .agg (e.cells tv).toArray] w fun r w' => r = .returned (.tuple #[]) ∧ RO w' rp F.pm (wth l (addE M.vs e.pv)) ∧ But (fun i => i = rp) w w' := by
 obtain ⟨HE0, HB0, HN0, y0, y1, y2, y3, y4, y5, y6, y7⟩ := cr w e tv
 have HTF := eTF R
 have HH : Hid (MD w B F M ∧ RO w rp F.pm l ∧ Tr w tv e.ts ∧ TBL w) := ⟨hM, h, R, T⟩
 have HQ : Hid (6 ≤ rp ∧ e.ok ∧ (∀ n c, tv = .slice none n c → c = 0) ∧ rp < w.heap.size) := ⟨hrp, he, hno, VA.lt h⟩
 have HOP : Hid (e.op = 1) := hop
 clear hM h R T hrp he hno hop
 go_enter func74, ntmps74
 go_upto_region 2 with (refine eSt e HN0 ?_; intro w1 hv1 hu1)
 have hb1 := hu1.bel HB0.out (by omega)
 have HM_1 : Hid (MD w1 B F M) := HH.out.1.step hb1
 have HR_1 : Hid (RO w1 rp F.pm l) := HH.out.2.1.step hb1
 have HB_1 : Hid (But (fun i => i = rp) w w1) := ac hb1 _
 have HTR_1 : Hid (Tr w1 tv e.ts) := HH.out.2.2.1.step hb1
 have HT_1 : Hid (TBL w1) := HH.out.2.2.2.step hb1
 have HE_1 := hI_ (HE0.out.upd hu1 (by omega))
 have HN_1 := hI_ hv1
 have y := eY 1 HE_1 HOP
 clear hb1 hv1 hu1 HN0 HE0 HB0 HH y0 y1 y2 y3 y4 y5 y6 y7
 have m0 := HN_1.out.cell 0 (v := .int .i64 e.n0) rfl
 have m1 := HN_1.out.cell 1 (v := .int .i64 e.n1) rfl
 have m2 := HN_1.out.cell 2 (v := .int .i64 e.n2) rfl
 have m3 := HN_1.out.cell 3 (v := .int .i64 e.n3) rfl
 go_upto_region 4 with fail
 have BB_1 := hI_ (Below.refl w1.heap.size w1)
 refine wp_region_noPanic ?_
 refine wp_region_held_drew (S := fun V => (∃ z : Int, VA V rp [.pointer (some ⟨F.pm, 0, none⟩), .int .i64 z] 148) ∧ VA V w.heap.size (e.cells tv) 31) (by kernel_rfl) (⟨⟨_, VA.drew HR_1.out⟩, HE_1.out.drew⟩) ?_
 intro hh_
 have bz := (Below.refl w1.heap.size w1).drew
 have HM_z := hI_ (HM_1.out.step bz)
 have HR_z := hI_ (HR_1.out.step bz)
 have HE_z := hI_ (HE_1.out.step bz)
 have HTR_z := hI_ (HTR_1.out.step bz)
 have BB_z := hI_ (BB_1.out.trans (bz.mono BB_1.out.size))
 generalize w1.drew = wz at *
 clear bz
 refine tL 0 11 (.pointer (some ⟨rp, 0, none⟩)) ?_ ?_
 ·intro wq hS
  go_simp
 try simp only [nrm]
 refine tL 1 12 (.pointer (some ⟨rp, 0, none⟩)) ?_ ?_
 ·intro wq hS
  go_simp
 try simp only [nrm]
 refine tL 2 13 (.pointer (some ⟨rp, 0, none⟩)) ?_ ?_
 ·intro wq hS
  go_simp
 try simp only [nrm]
 refine tL 3 14 (.pointer (some ⟨rp, 0, none⟩)) ?_ ?_
 ·intro wq hS
  go_simp
 try simp only [nrm]
 refine tL 4 15 (.pointer (some ⟨F.pm, 0, none⟩)) ?_ ?_
 ·intro wq hS
  obtain ⟨⟨z, hz⟩, _⟩ := hS
  have c := VA.cell hz 0 (v := .pointer (some ⟨F.pm, 0, none⟩)) rfl
  go_simp
 try simp only [nrm]
 refine tK 5 16 (.agg (e.cells tv).toArray) (by exact rfl) (yieldsIf_load_mid (by rfl) _ _ rfl _ _ rfl _ _ (fun wq hS => (fun j u hj => by rw [Nat.zero_add]; exact VA.cell hS.2 j hj)) underlying31 rfl aj) ?_
 try simp only [nrm]
 clear hh_
 refine rdy 6 (fun K hK => ?_)
 go_simp
 refine Calls.mono (fJ e tv wz HTF.out) ?_
 rintro e wu ⟨rfl, bu⟩
 have HM_u := hI_ (HM_z.out.step bu)
 have HR_u := hI_ (HR_z.out.step bu)
 have HE_u := hI_ (HE_z.out.step bu)
 have HTR_u := hI_ (HTR_z.out.step bu)
 have BB_u := hI_ (BB_z.out.trans (bu.mono BB_z.out.size))
 clear bu
 go_wp2_with fail
 refine hK.out _ _ (⟨⟨_, HR_u.out⟩, HE_u.out⟩) (fun hh_ => ?_)
 try simp only [nrm]
 clear hK K hh_
 refine rdy 7 (fun K hK => ?_)
 go_simp
 refine Calls.mono (nF wu B F M HM_u.out e.pv (EV.pvwf HQ.out.2.1) tv HTR_u.out HQ.out.2.2.1) ?_
 rintro e wv ⟨rfl, bv⟩
 have HM_v := hI_ (HM_u.out.step bv)
 have HR_v := hI_ (HR_u.out.step bv)
 have HE_v := hI_ (HE_u.out.step bv)
 have HTR_v := hI_ (HTR_u.out.step bv)
 have BB_v := hI_ (BB_u.out.trans (bv.mono BB_u.out.size))
 clear bv
 go_wp2_with fail
 refine hK.out _ _ (⟨⟨_, HR_v.out⟩, HE_v.out⟩) (fun hh_ => ?_)
 try simp only [nrm]
 clear hK K hh_
 refine rdy 8 (fun K hK => ?_)
 go_simp
 refine (eO wv rp F.pm _ _ HR_v.out).mono ?_
 rintro r w4 ⟨rfl, h1, h2⟩
 have HR_4 : Hid (RO w4 rp F.pm _) := h1
 have HB_4 : Hid (But (fun i => i = rp) w w4) := HB_1.out.trans ((ac BB_v.out (fun i => i = rp)).trans h2 (fun i hi hx => hx)) (fun i _ hx => hx)
 have HE_4 : Hid (VA w4 w.heap.size (e.cells tv) 31) := HE_v.out.but h2 (by have := HQ.out.2.2.2; omega)
 clear h1 h2
 go_wp2_with fail
 refine hK.out _ _ ⟨⟨_, HR_4.out⟩, HE_4.out⟩ (fun hh_ => ?_)
 clear hK K
 try simp only [nrm]
 refine dN ?_
 clear hh_
 go_wp2_with fail
 refine bodyPost_end (v := .tuple #[]) (by simp [results, results74, go_sem]) rfl ?_
 exact ⟨rfl, HR_4.out, HB_4.out⟩
theorem wZ (w : World) (B : Nat) (F : FB) (M : PM) (hM : MD w B F M) (rp : Nat) (l : Int) (h : RO w rp F.pm l) (e : EV) (he : e.ok) (tv : Value) (R : Tr w tv e.ts) (hno : ∀ n c, tv = .slice none n c → c = 0) (T : TBL w) (hrp : 6 ≤ rp) (hop : e.op = 2) :
  Calls prog 74 #[.pointer (some ⟨rp, 0, none⟩), .agg (e.cells tv).toArray] w fun r w' => r = .returned (.tuple #[]) ∧ RO w' rp F.pm (openL M l e.n0 e.n1) ∧ But (fun i => i = rp) w w' := by
 obtain ⟨HE0, HB0, HN0, y0, y1, y2, y3, y4, y5, y6, y7⟩ := cr w e tv
 have HTF := eTF R
 have HH : Hid (MD w B F M ∧ RO w rp F.pm l ∧ Tr w tv e.ts ∧ TBL w) := ⟨hM, h, R, T⟩
 have HQ : Hid (6 ≤ rp ∧ e.ok ∧ (∀ n c, tv = .slice none n c → c = 0) ∧ rp < w.heap.size) := ⟨hrp, he, hno, VA.lt h⟩
 have HOP : Hid (e.op = 2) := hop
 clear hM h R T hrp he hno hop
 go_enter func74, ntmps74
 go_upto_region 2 with (refine eSt e HN0 ?_; intro w1 hv1 hu1)
 have hb1 := hu1.bel HB0.out (by omega)
 have HM_1 : Hid (MD w1 B F M) := HH.out.1.step hb1
 have HR_1 : Hid (RO w1 rp F.pm l) := HH.out.2.1.step hb1
 have HB_1 : Hid (But (fun i => i = rp) w w1) := ac hb1 _
 have HTR_1 : Hid (Tr w1 tv e.ts) := HH.out.2.2.1.step hb1
 have HT_1 : Hid (TBL w1) := HH.out.2.2.2.step hb1
 have HE_1 := hI_ (HE0.out.upd hu1 (by omega))
 have HN_1 := hI_ hv1
 have y := eY 2 HE_1 HOP
 clear hb1 hv1 hu1 HN0 HE0 HB0 HH y0 y1 y2 y3 y4 y5 y6 y7
 have m0 := HN_1.out.cell 0 (v := .int .i64 e.n0) rfl
 have m1 := HN_1.out.cell 1 (v := .int .i64 e.n1) rfl
 have m2 := HN_1.out.cell 2 (v := .int .i64 e.n2) rfl
 have m3 := HN_1.out.cell 3 (v := .int .i64 e.n3) rfl
 go_wp2_with fail
 refine Calls.mono (rx w1 B F M HM_1.out rp _ e.n0 e.n1 HR_1.out) ?_
 rintro r w2 ⟨rfl, h1, h2⟩
 have HR_2 : Hid (RO _ _ _ _) := h1
 have HB_2 : Hid (But (fun i => i = rp) w w2) := HB_1.out.trans h2 (fun i _ hx => hx)
 have HM_2 : Hid (MD w2 B F M) := HM_1.out.ro HR_1.out h2
 clear h1 h2 HR_1 HB_1 HM_1  m0 m1 m2 m3 y
 go_wp2_with fail
 refine bodyPost_end (v := .tuple #[]) (by simp [results, results74, go_sem]) rfl ?_
 refine ⟨rfl, ?_, HB_2.out⟩
 have H := HR_2.out
 exact H
theorem x6 (w : World) (B : Nat) (F : FB) (M : PM) (hM : MD w B F M) (rp : Nat) (l : Int) (h : RO w rp F.pm l) (e : EV) (he : e.ok) (tv : Value) (R : Tr w tv e.ts) (hno : ∀ n c, tv = .slice none n c → c = 0) (T : TBL w) (hrp : 6 ≤ rp) (hop : e.op = 3) :
  Calls prog 74 #[.pointer (some ⟨rp, 0, none⟩), .agg (e.cells tv).toArray] w fun r w' => r = .returned (.tuple #[]) ∧ RO w' rp F.pm (whn (namedK M l e.n0 0) (emptyO (acctO M e.n0)) 15) ∧ But (fun i => i = rp) w w' := by
 obtain ⟨HE0, HB0, HN0, y0, y1, y2, y3, y4, y5, y6, y7⟩ := cr w e tv
 have HTF := eTF R
 have HH : Hid (MD w B F M ∧ RO w rp F.pm l ∧ Tr w tv e.ts ∧ TBL w) := ⟨hM, h, R, T⟩
 have HQ : Hid (6 ≤ rp ∧ e.ok ∧ (∀ n c, tv = .slice none n c → c = 0) ∧ rp < w.heap.size) := ⟨hrp, he, hno, VA.lt h⟩
 have HOP : Hid (e.op = 3) := hop
 clear hM h R T hrp he hno hop
 go_enter func74, ntmps74
 go_upto_region 2 with (refine eSt e HN0 ?_; intro w1 hv1 hu1)
 have hb1 := hu1.bel HB0.out (by omega)
 have HM_1 : Hid (MD w1 B F M) := HH.out.1.step hb1
 have HR_1 : Hid (RO w1 rp F.pm l) := HH.out.2.1.step hb1
 have HB_1 : Hid (But (fun i => i = rp) w w1) := ac hb1 _
 have HTR_1 : Hid (Tr w1 tv e.ts) := HH.out.2.2.1.step hb1
 have HT_1 : Hid (TBL w1) := HH.out.2.2.2.step hb1
 have HE_1 := hI_ (HE0.out.upd hu1 (by omega))
 have HN_1 := hI_ hv1
 have y := eY 3 HE_1 HOP
 clear hb1 hv1 hu1 HN0 HE0 HB0 HH y0 y1 y2 y3 y4 y5 y6 y7
 have m0 := HN_1.out.cell 0 (v := .int .i64 e.n0) rfl
 have m1 := HN_1.out.cell 1 (v := .int .i64 e.n1) rfl
 have m2 := HN_1.out.cell 2 (v := .int .i64 e.n2) rfl
 have m3 := HN_1.out.cell 3 (v := .int .i64 e.n3) rfl
 go_wp2_with fail
 refine Calls.mono (bo w1 B F M HM_1.out rp _ e.n0 0 HR_1.out) ?_
 rintro r w2 ⟨R1, rfl, eR1, fR1, h1, h2⟩
 have HR_2 : Hid (RO _ _ _ _) := h1
 have HB_2 : Hid (But (fun i => i = rp) w w2) := HB_1.out.trans h2 (fun i _ hx => hx)
 have HM_2 : Hid (MD w2 B F M) := HM_1.out.ro HR_1.out h2
 have FR1_2 : Hid (RF w2 R1) := fR1
 have ER1 : Hid (_ = _) := eR1
 clear eR1 fR1 h1 h2 HR_1 HB_1 HM_1  m0 m1 m2 m3 y
 go_wp2_with fail
 refine Calls.mono (qh w2 rp F.pm _ R1 HR_2.out FR1_2.out) ?_
 rintro r w3 ⟨rfl, h1, h2⟩
 have HR_3 : Hid (RO _ _ _ _) := h1
 have HB_3 : Hid (But (fun i => i = rp) w w3) := HB_2.out.trans h2 (fun i _ hx => hx)
 have HM_3 : Hid (MD w3 B F M) := HM_2.out.ro HR_2.out h2
 have FR1_3 : Hid (RF w3 _) := FR1_2.out.ro HR_2.out h2
 clear h1 h2 HR_2 HB_2 HM_2 FR1_2
 go_wp2_with fail
 refine bodyPost_end (v := .tuple #[]) (by simp [results, results74, go_sem]) rfl ?_
 refine ⟨rfl, ?_, HB_3.out⟩
 have H := HR_3.out
 rw [qg, ER1.out] at H
 exact H
theorem x8 (w : World) (B : Nat) (F : FB) (M : PM) (hM : MD w B F M) (rp : Nat) (l : Int) (h : RO w rp F.pm l) (e : EV) (he : e.ok) (tv : Value) (R : Tr w tv e.ts) (hno : ∀ n c, tv = .slice none n c → c = 0) (T : TBL w) (hrp : 6 ≤ rp) (hop : e.op = 4) :
  Calls prog 74 #[.pointer (some ⟨rp, 0, none⟩), .agg (e.cells tv).toArray] w fun r w' => r = .returned (.tuple #[]) ∧ RO w' rp F.pm (whn (namedK M (whn l (beyond e.n1 10000000000000) 1) e.n0 1) (roomO (acctO M e.n0) e.n1) 4) ∧ But (fun i => i = rp) w w' := by
 obtain ⟨HE0, HB0, HN0, y0, y1, y2, y3, y4, y5, y6, y7⟩ := cr w e tv
 have HTF := eTF R
 have HH : Hid (MD w B F M ∧ RO w rp F.pm l ∧ Tr w tv e.ts ∧ TBL w) := ⟨hM, h, R, T⟩
 have HQ : Hid (6 ≤ rp ∧ e.ok ∧ (∀ n c, tv = .slice none n c → c = 0) ∧ rp < w.heap.size) := ⟨hrp, he, hno, VA.lt h⟩
 have HOP : Hid (e.op = 4) := hop
 clear hM h R T hrp he hno hop
 go_enter func74, ntmps74
 go_upto_region 2 with (refine eSt e HN0 ?_; intro w1 hv1 hu1)
 have hb1 := hu1.bel HB0.out (by omega)
 have HM_1 : Hid (MD w1 B F M) := HH.out.1.step hb1
 have HR_1 : Hid (RO w1 rp F.pm l) := HH.out.2.1.step hb1
 have HB_1 : Hid (But (fun i => i = rp) w w1) := ac hb1 _
 have HTR_1 : Hid (Tr w1 tv e.ts) := HH.out.2.2.1.step hb1
 have HT_1 : Hid (TBL w1) := HH.out.2.2.2.step hb1
 have HE_1 := hI_ (HE0.out.upd hu1 (by omega))
 have HN_1 := hI_ hv1
 have y := eY 4 HE_1 HOP
 clear hb1 hv1 hu1 HN0 HE0 HB0 HH y0 y1 y2 y3 y4 y5 y6 y7
 have m0 := HN_1.out.cell 0 (v := .int .i64 e.n0) rfl
 have m1 := HN_1.out.cell 1 (v := .int .i64 e.n1) rfl
 have m2 := HN_1.out.cell 2 (v := .int .i64 e.n2) rfl
 have m3 := HN_1.out.cell 3 (v := .int .i64 e.n3) rfl
 go_wp2_with fail
 refine Calls.mono (bJ w1 rp F.pm _ e.n1 HR_1.out) ?_
 rintro r w2 ⟨rfl, h1, h2⟩
 have HB_12 : Hid (But (fun i => i = rp) w1 w2) := h2
 have HR_2 : Hid (RO _ _ _ _) := h1
 have HB_2 : Hid (But (fun i => i = rp) w w2) := HB_1.out.trans h2 (fun i _ hx => hx)
 have HM_2 : Hid (MD w2 B F M) := HM_1.out.ro HR_1.out h2
 clear h1 h2 HR_1 HB_1 HM_1
 have HN_2 : Hid (VA w2 (w.heap.size + 1) [.int .i64 e.n0, .int .i64 e.n1, .int .i64 e.n2, .int .i64 e.n3, .int .i64 e.n4, .int .i64 e.n5, .int .i64 e.n6, .int .i64 e.n7] 28) := HN_1.out.but (HB_12.out) (by have := HQ.out.2.2.2; omega)
 clear m0 m1 m2 m3 y
 go_upto_region 11 with fail
 have BB_2 := hI_ (Below.refl w2.heap.size w2)
 refine wp_region_noPanic ?_
 refine wp_region_held_drew (S := fun V => VA V (w.heap.size + 1) [.int .i64 e.n0, .int .i64 e.n1, .int .i64 e.n2, .int .i64 e.n3, .int .i64 e.n4, .int .i64 e.n5, .int .i64 e.n6, .int .i64 e.n7] 28) (by kernel_rfl) (HN_2.out.drew) ?_
 intro hh_
 have bz := (Below.refl w2.heap.size w2).drew
 have HM_z := hI_ (HM_2.out.step bz)
 have HR_z := hI_ (HR_2.out.step bz)
 have HN_z := hI_ (HN_2.out.step bz)
 have BB_z := hI_ (BB_2.out.trans (bz.mono BB_2.out.size))
 generalize w2.drew = wz at *
 clear bz
 refine tL 0 42 (.pointer (some ⟨rp, 0, none⟩)) ?_ ?_
 ·intro wq hS
  go_simp
 try simp only [nrm]
 refine tL 1 43 (.pointer (some ⟨rp, 0, none⟩)) ?_ ?_
 ·intro wq hS
  go_simp
 try simp only [nrm]
 refine tL 2 44 (.pointer (some ⟨w.heap.size + 1, 0, none⟩)) ?_ ?_
 ·intro wq hS
  go_simp
 try simp only [nrm]
 refine tL 3 45 (.int .i64 e.n0) ?_ ?_
 ·intro wq hS
  have c := VA.cell hS 0 (v := .int .i64 e.n0) rfl
  go_simp
 try simp only [nrm]
 refine tL 5 47 (.pointer (some ⟨w.heap.size + 1, 1, none⟩)) ?_ ?_
 ·intro wq hS
  go_simp
 try simp only [nrm]
 refine tL 6 48 (.int .i64 e.n1) ?_ ?_
 ·intro wq hS
  have c := VA.cell hS 1 (v := .int .i64 e.n1) rfl
  go_simp
 try simp only [nrm]
 clear hh_
 refine rdy 4 (fun K hK => ?_)
 go_simp
 refine (bo wz B F M HM_z.out rp _ e.n0 1 HR_z.out).mono ?_
 rintro r w3 ⟨R1, rfl, e1, f1, h1, h2⟩
 have HR_3 : Hid (RO w3 rp F.pm _) := h1
 have HM_3 : Hid (MD w3 B F M) := HM_z.out.ro HR_z.out h2
 have HN_3 : Hid (VA w3 (w.heap.size + 1) [.int .i64 e.n0, .int .i64 e.n1, .int .i64 e.n2, .int .i64 e.n3, .int .i64 e.n4, .int .i64 e.n5, .int .i64 e.n6, .int .i64 e.n7] 28) := HN_z.out.but h2 (by have := HQ.out.2.2.2; omega)
 have HB_3 : Hid (But (fun i => i = rp) w w3) := HB_2.out.trans ((ac BB_z.out (fun i => i = rp)).trans h2 (fun i hi hx => hx)) (fun i _ hx => hx)
 have FR1_3 : Hid (RF w3 R1) := f1
 have ER1 : Hid (_ = _) := e1
 clear h1 h2 e1 f1
 go_wp2_with fail
 refine hK.out _ _ HN_3.out (fun hh_ => ?_)
 clear hK K hh_
 try simp only [nrm]
 refine rdy 7 (fun K hK => ?_)
 go_simp
 refine (gA w3 rp F.pm _ e.n1 R1 HR_3.out FR1_3.out).mono ?_
 rintro r w4 ⟨rfl, h1, h2⟩
 have HR_4 : Hid (RO w4 rp F.pm _) := h1
 have HB_4 : Hid (But (fun i => i = rp) w w4) := HB_3.out.trans h2 (fun i _ hx => hx)
 have HN_4 : Hid (VA w4 (w.heap.size + 1) [.int .i64 e.n0, .int .i64 e.n1, .int .i64 e.n2, .int .i64 e.n3, .int .i64 e.n4, .int .i64 e.n5, .int .i64 e.n6, .int .i64 e.n7] 28) := HN_3.out.but h2 (by have := HQ.out.2.2.2; omega)
 clear h1 h2
 go_wp2_with fail
 refine hK.out _ _ HN_4.out (fun hh_ => ?_)
 clear hK K
 try simp only [nrm]
 refine dN ?_
 clear hh_
 go_wp2_with fail
 refine bodyPost_end (v := .tuple #[]) (by simp [results, results74, go_sem]) rfl ?_
 refine ⟨rfl, ?_, HB_4.out⟩
 have H := HR_4.out
 rw [fE, ER1.out] at H
 exact H
theorem x9 (w : World) (B : Nat) (F : FB) (M : PM) (hM : MD w B F M) (rp : Nat) (l : Int) (h : RO w rp F.pm l) (e : EV) (he : e.ok) (tv : Value) (R : Tr w tv e.ts) (hno : ∀ n c, tv = .slice none n c → c = 0) (T : TBL w) (hrp : 6 ≤ rp) (hop : e.op = 5) :
  Calls prog 74 #[.pointer (some ⟨rp, 0, none⟩), .agg (e.cells tv).toArray] w fun r w' => r = .returned (.tuple #[]) ∧ RO w' rp F.pm (whn (namedK M (whn l (beyond e.n1 10000000000000) 1) e.n0 1) (fundsO M (acctO M e.n0) e.n1) 13) ∧ But (fun i => i = rp) w w' := by
 obtain ⟨HE0, HB0, HN0, y0, y1, y2, y3, y4, y5, y6, y7⟩ := cr w e tv
 have HTF := eTF R
 have HH : Hid (MD w B F M ∧ RO w rp F.pm l ∧ Tr w tv e.ts ∧ TBL w) := ⟨hM, h, R, T⟩
 have HQ : Hid (6 ≤ rp ∧ e.ok ∧ (∀ n c, tv = .slice none n c → c = 0) ∧ rp < w.heap.size) := ⟨hrp, he, hno, VA.lt h⟩
 have HOP : Hid (e.op = 5) := hop
 clear hM h R T hrp he hno hop
 go_enter func74, ntmps74
 go_upto_region 2 with (refine eSt e HN0 ?_; intro w1 hv1 hu1)
 have hb1 := hu1.bel HB0.out (by omega)
 have HM_1 : Hid (MD w1 B F M) := HH.out.1.step hb1
 have HR_1 : Hid (RO w1 rp F.pm l) := HH.out.2.1.step hb1
 have HB_1 : Hid (But (fun i => i = rp) w w1) := ac hb1 _
 have HTR_1 : Hid (Tr w1 tv e.ts) := HH.out.2.2.1.step hb1
 have HT_1 : Hid (TBL w1) := HH.out.2.2.2.step hb1
 have HE_1 := hI_ (HE0.out.upd hu1 (by omega))
 have HN_1 := hI_ hv1
 have y := eY 5 HE_1 HOP
 clear hb1 hv1 hu1 HN0 HE0 HB0 HH y0 y1 y2 y3 y4 y5 y6 y7
 have m0 := HN_1.out.cell 0 (v := .int .i64 e.n0) rfl
 have m1 := HN_1.out.cell 1 (v := .int .i64 e.n1) rfl
 have m2 := HN_1.out.cell 2 (v := .int .i64 e.n2) rfl
 have m3 := HN_1.out.cell 3 (v := .int .i64 e.n3) rfl
 go_wp2_with fail
 refine Calls.mono (bJ w1 rp F.pm _ e.n1 HR_1.out) ?_
 rintro r w2 ⟨rfl, h1, h2⟩
 have HB_12 : Hid (But (fun i => i = rp) w1 w2) := h2
 have HR_2 : Hid (RO _ _ _ _) := h1
 have HB_2 : Hid (But (fun i => i = rp) w w2) := HB_1.out.trans h2 (fun i _ hx => hx)
 have HM_2 : Hid (MD w2 B F M) := HM_1.out.ro HR_1.out h2
 clear h1 h2 HR_1 HB_1 HM_1
 have HN_2 : Hid (VA w2 (w.heap.size + 1) [.int .i64 e.n0, .int .i64 e.n1, .int .i64 e.n2, .int .i64 e.n3, .int .i64 e.n4, .int .i64 e.n5, .int .i64 e.n6, .int .i64 e.n7] 28) := HN_1.out.but (HB_12.out) (by have := HQ.out.2.2.2; omega)
 clear m0 m1 m2 m3 y
 go_upto_region 14 with fail
 have BB_2 := hI_ (Below.refl w2.heap.size w2)
 refine wp_region_noPanic ?_
 refine wp_region_held_drew (S := fun V => VA V (w.heap.size + 1) [.int .i64 e.n0, .int .i64 e.n1, .int .i64 e.n2, .int .i64 e.n3, .int .i64 e.n4, .int .i64 e.n5, .int .i64 e.n6, .int .i64 e.n7] 28) (by kernel_rfl) (HN_2.out.drew) ?_
 intro hh_
 have bz := (Below.refl w2.heap.size w2).drew
 have HM_z := hI_ (HM_2.out.step bz)
 have HR_z := hI_ (HR_2.out.step bz)
 have HN_z := hI_ (HN_2.out.step bz)
 have BB_z := hI_ (BB_2.out.trans (bz.mono BB_2.out.size))
 generalize w2.drew = wz at *
 clear bz
 refine tL 0 56 (.pointer (some ⟨rp, 0, none⟩)) ?_ ?_
 ·intro wq hS
  go_simp
 try simp only [nrm]
 refine tL 1 57 (.pointer (some ⟨rp, 0, none⟩)) ?_ ?_
 ·intro wq hS
  go_simp
 try simp only [nrm]
 refine tL 2 58 (.pointer (some ⟨w.heap.size + 1, 0, none⟩)) ?_ ?_
 ·intro wq hS
  go_simp
 try simp only [nrm]
 refine tL 3 59 (.int .i64 e.n0) ?_ ?_
 ·intro wq hS
  have c := VA.cell hS 0 (v := .int .i64 e.n0) rfl
  go_simp
 try simp only [nrm]
 refine tL 5 61 (.pointer (some ⟨w.heap.size + 1, 1, none⟩)) ?_ ?_
 ·intro wq hS
  go_simp
 try simp only [nrm]
 refine tL 6 62 (.int .i64 e.n1) ?_ ?_
 ·intro wq hS
  have c := VA.cell hS 1 (v := .int .i64 e.n1) rfl
  go_simp
 try simp only [nrm]
 clear hh_
 refine rdy 4 (fun K hK => ?_)
 go_simp
 refine (bo wz B F M HM_z.out rp _ e.n0 1 HR_z.out).mono ?_
 rintro r w3 ⟨R1, rfl, e1, f1, h1, h2⟩
 have HR_3 : Hid (RO w3 rp F.pm _) := h1
 have HM_3 : Hid (MD w3 B F M) := HM_z.out.ro HR_z.out h2
 have HN_3 : Hid (VA w3 (w.heap.size + 1) [.int .i64 e.n0, .int .i64 e.n1, .int .i64 e.n2, .int .i64 e.n3, .int .i64 e.n4, .int .i64 e.n5, .int .i64 e.n6, .int .i64 e.n7] 28) := HN_z.out.but h2 (by have := HQ.out.2.2.2; omega)
 have HB_3 : Hid (But (fun i => i = rp) w w3) := HB_2.out.trans ((ac BB_z.out (fun i => i = rp)).trans h2 (fun i hi hx => hx)) (fun i _ hx => hx)
 have FR1_3 : Hid (RF w3 R1) := f1
 have ER1 : Hid (_ = _) := e1
 clear h1 h2 e1 f1
 go_wp2_with fail
 refine hK.out _ _ HN_3.out (fun hh_ => ?_)
 clear hK K hh_
 try simp only [nrm]
 refine rdy 7 (fun K hK => ?_)
 go_simp
 refine (de w3 B F M HM_3.out rp _ e.n1 R1 HR_3.out FR1_3.out).mono ?_
 rintro r w4 ⟨rfl, h1, h2⟩
 have HR_4 : Hid (RO w4 rp F.pm _) := h1
 have HB_4 : Hid (But (fun i => i = rp) w w4) := HB_3.out.trans h2 (fun i _ hx => hx)
 have HN_4 : Hid (VA w4 (w.heap.size + 1) [.int .i64 e.n0, .int .i64 e.n1, .int .i64 e.n2, .int .i64 e.n3, .int .i64 e.n4, .int .i64 e.n5, .int .i64 e.n6, .int .i64 e.n7] 28) := HN_3.out.but h2 (by have := HQ.out.2.2.2; omega)
 clear h1 h2
 go_wp2_with fail
 refine hK.out _ _ HN_4.out (fun hh_ => ?_)
 clear hK K
 try simp only [nrm]
 refine dN ?_
 clear hh_
 go_wp2_with fail
 refine bodyPost_end (v := .tuple #[]) (by simp [results, results74, go_sem]) rfl ?_
 refine ⟨rfl, ?_, HB_4.out⟩
 have H := HR_4.out
 rw [bQ, ER1.out] at H
 exact H
theorem xc (w : World) (B : Nat) (F : FB) (M : PM) (hM : MD w B F M) (rp : Nat) (l : Int) (h : RO w rp F.pm l) (e : EV) (he : e.ok) (tv : Value) (R : Tr w tv e.ts) (hno : ∀ n c, tv = .slice none n c → c = 0) (T : TBL w) (hrp : 6 ≤ rp) (hop : e.op = 6) :
  Calls prog 74 #[.pointer (some ⟨rp, 0, none⟩), .agg (e.cells tv).toArray] w fun r w' => r = .returned (.tuple #[]) ∧ RO w' rp F.pm (transferL M l e.n0 e.n1 e.n2) ∧ But (fun i => i = rp) w w' := by
 obtain ⟨HE0, HB0, HN0, y0, y1, y2, y3, y4, y5, y6, y7⟩ := cr w e tv
 have HTF := eTF R
 have HH : Hid (MD w B F M ∧ RO w rp F.pm l ∧ Tr w tv e.ts ∧ TBL w) := ⟨hM, h, R, T⟩
 have HQ : Hid (6 ≤ rp ∧ e.ok ∧ (∀ n c, tv = .slice none n c → c = 0) ∧ rp < w.heap.size) := ⟨hrp, he, hno, VA.lt h⟩
 have HOP : Hid (e.op = 6) := hop
 clear hM h R T hrp he hno hop
 go_enter func74, ntmps74
 go_upto_region 2 with (refine eSt e HN0 ?_; intro w1 hv1 hu1)
 have hb1 := hu1.bel HB0.out (by omega)
 have HM_1 : Hid (MD w1 B F M) := HH.out.1.step hb1
 have HR_1 : Hid (RO w1 rp F.pm l) := HH.out.2.1.step hb1
 have HB_1 : Hid (But (fun i => i = rp) w w1) := ac hb1 _
 have HTR_1 : Hid (Tr w1 tv e.ts) := HH.out.2.2.1.step hb1
 have HT_1 : Hid (TBL w1) := HH.out.2.2.2.step hb1
 have HE_1 := hI_ (HE0.out.upd hu1 (by omega))
 have HN_1 := hI_ hv1
 have y := eY 6 HE_1 HOP
 clear hb1 hv1 hu1 HN0 HE0 HB0 HH y0 y1 y2 y3 y4 y5 y6 y7
 have m0 := HN_1.out.cell 0 (v := .int .i64 e.n0) rfl
 have m1 := HN_1.out.cell 1 (v := .int .i64 e.n1) rfl
 have m2 := HN_1.out.cell 2 (v := .int .i64 e.n2) rfl
 have m3 := HN_1.out.cell 3 (v := .int .i64 e.n3) rfl
 go_wp2_with fail
 refine Calls.mono (jL w1 B F M HM_1.out rp _ e.n0 e.n1 e.n2 HR_1.out) ?_
 rintro r w2 ⟨rfl, h1, h2⟩
 have HR_2 : Hid (RO _ _ _ _) := h1
 have HB_2 : Hid (But (fun i => i = rp) w w2) := HB_1.out.trans h2 (fun i _ hx => hx)
 have HM_2 : Hid (MD w2 B F M) := HM_1.out.ro HR_1.out h2
 clear h1 h2 HR_1 HB_1 HM_1  m0 m1 m2 m3 y
 go_wp2_with fail
 refine bodyPost_end (v := .tuple #[]) (by simp [results, results74, go_sem]) rfl ?_
 refine ⟨rfl, ?_, HB_2.out⟩
 have H := HR_2.out
 exact H
theorem xd (w : World) (B : Nat) (F : FB) (M : PM) (hM : MD w B F M) (rp : Nat) (l : Int) (h : RO w rp F.pm l) (e : EV) (he : e.ok) (tv : Value) (R : Tr w tv e.ts) (hno : ∀ n c, tv = .slice none n c → c = 0) (T : TBL w) (hrp : 6 ≤ rp) (hop : e.op = 7) :
  Calls prog 74 #[.pointer (some ⟨rp, 0, none⟩), .agg (e.cells tv).toArray] w fun r w' => r = .returned (.tuple #[]) ∧ RO w' rp F.pm (holdL M l e.n0 e.n1 e.n2) ∧ But (fun i => i = rp) w w' := by
 obtain ⟨HE0, HB0, HN0, y0, y1, y2, y3, y4, y5, y6, y7⟩ := cr w e tv
 have HTF := eTF R
 have HH : Hid (MD w B F M ∧ RO w rp F.pm l ∧ Tr w tv e.ts ∧ TBL w) := ⟨hM, h, R, T⟩
 have HQ : Hid (6 ≤ rp ∧ e.ok ∧ (∀ n c, tv = .slice none n c → c = 0) ∧ rp < w.heap.size) := ⟨hrp, he, hno, VA.lt h⟩
 have HOP : Hid (e.op = 7) := hop
 clear hM h R T hrp he hno hop
 go_enter func74, ntmps74
 go_upto_region 2 with (refine eSt e HN0 ?_; intro w1 hv1 hu1)
 have hb1 := hu1.bel HB0.out (by omega)
 have HM_1 : Hid (MD w1 B F M) := HH.out.1.step hb1
 have HR_1 : Hid (RO w1 rp F.pm l) := HH.out.2.1.step hb1
 have HB_1 : Hid (But (fun i => i = rp) w w1) := ac hb1 _
 have HTR_1 : Hid (Tr w1 tv e.ts) := HH.out.2.2.1.step hb1
 have HT_1 : Hid (TBL w1) := HH.out.2.2.2.step hb1
 have HE_1 := hI_ (HE0.out.upd hu1 (by omega))
 have HN_1 := hI_ hv1
 have y := eY 7 HE_1 HOP
 clear hb1 hv1 hu1 HN0 HE0 HB0 HH y0 y1 y2 y3 y4 y5 y6 y7
 have m0 := HN_1.out.cell 0 (v := .int .i64 e.n0) rfl
 have m1 := HN_1.out.cell 1 (v := .int .i64 e.n1) rfl
 have m2 := HN_1.out.cell 2 (v := .int .i64 e.n2) rfl
 have m3 := HN_1.out.cell 3 (v := .int .i64 e.n3) rfl
 go_wp2_with fail
 refine Calls.mono (rq w1 B F M HM_1.out rp _ e.n0 e.n1 e.n2 HR_1.out HQ.out.2.1.n1) ?_
 rintro r w2 ⟨rfl, h1, h2⟩
 have HR_2 : Hid (RO _ _ _ _) := h1
 have HB_2 : Hid (But (fun i => i = rp) w w2) := HB_1.out.trans h2 (fun i _ hx => hx)
 have HM_2 : Hid (MD w2 B F M) := HM_1.out.ro HR_1.out h2
 clear h1 h2 HR_1 HB_1 HM_1  m0 m1 m2 m3 y
 go_wp2_with fail
 refine bodyPost_end (v := .tuple #[]) (by simp [results, results74, go_sem]) rfl ?_
 refine ⟨rfl, ?_, HB_2.out⟩
 have H := HR_2.out
 exact H
theorem xf (w : World) (B : Nat) (F : FB) (M : PM) (hM : MD w B F M) (rp : Nat) (l : Int) (h : RO w rp F.pm l) (e : EV) (he : e.ok) (tv : Value) (R : Tr w tv e.ts) (hno : ∀ n c, tv = .slice none n c → c = 0) (T : TBL w) (hrp : 6 ≤ rp) (hop : e.op = 8) :
  Calls prog 74 #[.pointer (some ⟨rp, 0, none⟩), .agg (e.cells tv).toArray] w fun r w' => r = .returned (.tuple #[]) ∧ RO w' rp F.pm (freeL M l e.n0 e.n1) ∧ But (fun i => i = rp) w w' := by
 obtain ⟨HE0, HB0, HN0, y0, y1, y2, y3, y4, y5, y6, y7⟩ := cr w e tv
 have HTF := eTF R
 have HH : Hid (MD w B F M ∧ RO w rp F.pm l ∧ Tr w tv e.ts ∧ TBL w) := ⟨hM, h, R, T⟩
 have HQ : Hid (6 ≤ rp ∧ e.ok ∧ (∀ n c, tv = .slice none n c → c = 0) ∧ rp < w.heap.size) := ⟨hrp, he, hno, VA.lt h⟩
 have HOP : Hid (e.op = 8) := hop
 clear hM h R T hrp he hno hop
 go_enter func74, ntmps74
 go_upto_region 2 with (refine eSt e HN0 ?_; intro w1 hv1 hu1)
 have hb1 := hu1.bel HB0.out (by omega)
 have HM_1 : Hid (MD w1 B F M) := HH.out.1.step hb1
 have HR_1 : Hid (RO w1 rp F.pm l) := HH.out.2.1.step hb1
 have HB_1 : Hid (But (fun i => i = rp) w w1) := ac hb1 _
 have HTR_1 : Hid (Tr w1 tv e.ts) := HH.out.2.2.1.step hb1
 have HT_1 : Hid (TBL w1) := HH.out.2.2.2.step hb1
 have HE_1 := hI_ (HE0.out.upd hu1 (by omega))
 have HN_1 := hI_ hv1
 have y := eY 8 HE_1 HOP
 clear hb1 hv1 hu1 HN0 HE0 HB0 HH y0 y1 y2 y3 y4 y5 y6 y7
 have m0 := HN_1.out.cell 0 (v := .int .i64 e.n0) rfl
 have m1 := HN_1.out.cell 1 (v := .int .i64 e.n1) rfl
 have m2 := HN_1.out.cell 2 (v := .int .i64 e.n2) rfl
 have m3 := HN_1.out.cell 3 (v := .int .i64 e.n3) rfl
 go_wp2_with fail
 refine Calls.mono (rl w1 B F M HM_1.out rp _ e.n0 e.n1 HR_1.out HQ.out.2.1.n1) ?_
 rintro r w2 ⟨rfl, h1, h2⟩
 have HR_2 : Hid (RO _ _ _ _) := h1
 have HB_2 : Hid (But (fun i => i = rp) w w2) := HB_1.out.trans h2 (fun i _ hx => hx)
 have HM_2 : Hid (MD w2 B F M) := HM_1.out.ro HR_1.out h2
 clear h1 h2 HR_1 HB_1 HM_1  m0 m1 m2 m3 y
 go_wp2_with fail
 refine bodyPost_end (v := .tuple #[]) (by simp [results, results74, go_sem]) rfl ?_
 refine ⟨rfl, ?_, HB_2.out⟩
 have H := HR_2.out
 exact H
theorem xg (w : World) (B : Nat) (F : FB) (M : PM) (hM : MD w B F M) (rp : Nat) (l : Int) (h : RO w rp F.pm l) (e : EV) (he : e.ok) (tv : Value) (R : Tr w tv e.ts) (hno : ∀ n c, tv = .slice none n c → c = 0) (T : TBL w) (hrp : 6 ≤ rp) (hop : e.op = 9) :
  Calls prog 74 #[.pointer (some ⟨rp, 0, none⟩), .agg (e.cells tv).toArray] w fun r w' => r = .returned (.tuple #[]) ∧ RO w' rp F.pm (lendL M l e.n0 e.n1 e.n2 e.n3) ∧ But (fun i => i = rp) w w' := by
 obtain ⟨HE0, HB0, HN0, y0, y1, y2, y3, y4, y5, y6, y7⟩ := cr w e tv
 have HTF := eTF R
 have HH : Hid (MD w B F M ∧ RO w rp F.pm l ∧ Tr w tv e.ts ∧ TBL w) := ⟨hM, h, R, T⟩
 have HQ : Hid (6 ≤ rp ∧ e.ok ∧ (∀ n c, tv = .slice none n c → c = 0) ∧ rp < w.heap.size) := ⟨hrp, he, hno, VA.lt h⟩
 have HOP : Hid (e.op = 9) := hop
 clear hM h R T hrp he hno hop
 go_enter func74, ntmps74
 go_upto_region 2 with (refine eSt e HN0 ?_; intro w1 hv1 hu1)
 have hb1 := hu1.bel HB0.out (by omega)
 have HM_1 : Hid (MD w1 B F M) := HH.out.1.step hb1
 have HR_1 : Hid (RO w1 rp F.pm l) := HH.out.2.1.step hb1
 have HB_1 : Hid (But (fun i => i = rp) w w1) := ac hb1 _
 have HTR_1 : Hid (Tr w1 tv e.ts) := HH.out.2.2.1.step hb1
 have HT_1 : Hid (TBL w1) := HH.out.2.2.2.step hb1
 have HE_1 := hI_ (HE0.out.upd hu1 (by omega))
 have HN_1 := hI_ hv1
 have y := eY 9 HE_1 HOP
 clear hb1 hv1 hu1 HN0 HE0 HB0 HH y0 y1 y2 y3 y4 y5 y6 y7
 have m0 := HN_1.out.cell 0 (v := .int .i64 e.n0) rfl
 have m1 := HN_1.out.cell 1 (v := .int .i64 e.n1) rfl
 have m2 := HN_1.out.cell 2 (v := .int .i64 e.n2) rfl
 have m3 := HN_1.out.cell 3 (v := .int .i64 e.n3) rfl
 go_wp2_with fail
 refine Calls.mono (ru w1 B F M HM_1.out rp _ e.n0 e.n1 e.n2 e.n3 HR_1.out) ?_
 rintro r w2 ⟨rfl, h1, h2⟩
 have HR_2 : Hid (RO _ _ _ _) := h1
 have HB_2 : Hid (But (fun i => i = rp) w w2) := HB_1.out.trans h2 (fun i _ hx => hx)
 have HM_2 : Hid (MD w2 B F M) := HM_1.out.ro HR_1.out h2
 clear h1 h2 HR_1 HB_1 HM_1  m0 m1 m2 m3 y
 go_wp2_with fail
 refine bodyPost_end (v := .tuple #[]) (by simp [results, results74, go_sem]) rfl ?_
 refine ⟨rfl, ?_, HB_2.out⟩
 have H := HR_2.out
 exact H
theorem uY (w : World) (B : Nat) (F : FB) (M : PM) (hM : MD w B F M) (rp : Nat) (l : Int) (h : RO w rp F.pm l) (e : EV) (he : e.ok) (tv : Value) (R : Tr w tv e.ts) (hno : ∀ n c, tv = .slice none n c → c = 0) (T : TBL w) (hrp : 6 ≤ rp) (hop : e.op = 10) :
  Calls prog 74 #[.pointer (some ⟨rp, 0, none⟩), .agg (e.cells tv).toArray] w fun r w' => r = .returned (.tuple #[]) ∧ RO w' rp F.pm (repayL M l e.n0 e.n1 e.n2) ∧ But (fun i => i = rp) w w' := by
 obtain ⟨HE0, HB0, HN0, y0, y1, y2, y3, y4, y5, y6, y7⟩ := cr w e tv
 have HTF := eTF R
 have HH : Hid (MD w B F M ∧ RO w rp F.pm l ∧ Tr w tv e.ts ∧ TBL w) := ⟨hM, h, R, T⟩
 have HQ : Hid (6 ≤ rp ∧ e.ok ∧ (∀ n c, tv = .slice none n c → c = 0) ∧ rp < w.heap.size) := ⟨hrp, he, hno, VA.lt h⟩
 have HOP : Hid (e.op = 10) := hop
 clear hM h R T hrp he hno hop
 go_enter func74, ntmps74
 go_upto_region 2 with (refine eSt e HN0 ?_; intro w1 hv1 hu1)
 have hb1 := hu1.bel HB0.out (by omega)
 have HM_1 : Hid (MD w1 B F M) := HH.out.1.step hb1
 have HR_1 : Hid (RO w1 rp F.pm l) := HH.out.2.1.step hb1
 have HB_1 : Hid (But (fun i => i = rp) w w1) := ac hb1 _
 have HTR_1 : Hid (Tr w1 tv e.ts) := HH.out.2.2.1.step hb1
 have HT_1 : Hid (TBL w1) := HH.out.2.2.2.step hb1
 have HE_1 := hI_ (HE0.out.upd hu1 (by omega))
 have HN_1 := hI_ hv1
 have y := eY 10 HE_1 HOP
 clear hb1 hv1 hu1 HN0 HE0 HB0 HH y0 y1 y2 y3 y4 y5 y6 y7
 have m0 := HN_1.out.cell 0 (v := .int .i64 e.n0) rfl
 have m1 := HN_1.out.cell 1 (v := .int .i64 e.n1) rfl
 have m2 := HN_1.out.cell 2 (v := .int .i64 e.n2) rfl
 have m3 := HN_1.out.cell 3 (v := .int .i64 e.n3) rfl
 go_wp2_with fail
 refine Calls.mono (oS w1 B F M HM_1.out rp _ e.n0 e.n1 e.n2 HR_1.out) ?_
 rintro r w2 ⟨rfl, h1, h2⟩
 have HR_2 : Hid (RO _ _ _ _) := h1
 have HB_2 : Hid (But (fun i => i = rp) w w2) := HB_1.out.trans h2 (fun i _ hx => hx)
 have HM_2 : Hid (MD w2 B F M) := HM_1.out.ro HR_1.out h2
 clear h1 h2 HR_1 HB_1 HM_1  m0 m1 m2 m3 y
 go_wp2_with fail
 refine bodyPost_end (v := .tuple #[]) (by simp [results, results74, go_sem]) rfl ?_
 refine ⟨rfl, ?_, HB_2.out⟩
 have H := HR_2.out
 exact H
theorem uZ (w : World) (B : Nat) (F : FB) (M : PM) (hM : MD w B F M) (rp : Nat) (l : Int) (h : RO w rp F.pm l) (e : EV) (he : e.ok) (tv : Value) (R : Tr w tv e.ts) (hno : ∀ n c, tv = .slice none n c → c = 0) (T : TBL w) (hrp : 6 ≤ rp) (hop : e.op = 11) :
  Calls prog 74 #[.pointer (some ⟨rp, 0, none⟩), .agg (e.cells tv).toArray] w fun r w' => r = .returned (.tuple #[]) ∧ RO w' rp F.pm (rateL l e.n0 e.n1 e.n2) ∧ But (fun i => i = rp) w w' := by
 obtain ⟨HE0, HB0, HN0, y0, y1, y2, y3, y4, y5, y6, y7⟩ := cr w e tv
 have HTF := eTF R
 have HH : Hid (MD w B F M ∧ RO w rp F.pm l ∧ Tr w tv e.ts ∧ TBL w) := ⟨hM, h, R, T⟩
 have HQ : Hid (6 ≤ rp ∧ e.ok ∧ (∀ n c, tv = .slice none n c → c = 0) ∧ rp < w.heap.size) := ⟨hrp, he, hno, VA.lt h⟩
 have HOP : Hid (e.op = 11) := hop
 clear hM h R T hrp he hno hop
 go_enter func74, ntmps74
 go_upto_region 2 with (refine eSt e HN0 ?_; intro w1 hv1 hu1)
 have hb1 := hu1.bel HB0.out (by omega)
 have HM_1 : Hid (MD w1 B F M) := HH.out.1.step hb1
 have HR_1 : Hid (RO w1 rp F.pm l) := HH.out.2.1.step hb1
 have HB_1 : Hid (But (fun i => i = rp) w w1) := ac hb1 _
 have HTR_1 : Hid (Tr w1 tv e.ts) := HH.out.2.2.1.step hb1
 have HT_1 : Hid (TBL w1) := HH.out.2.2.2.step hb1
 have HE_1 := hI_ (HE0.out.upd hu1 (by omega))
 have HN_1 := hI_ hv1
 have y := eY 11 HE_1 HOP
 clear hb1 hv1 hu1 HN0 HE0 HB0 HH y0 y1 y2 y3 y4 y5 y6 y7
 have m0 := HN_1.out.cell 0 (v := .int .i64 e.n0) rfl
 have m1 := HN_1.out.cell 1 (v := .int .i64 e.n1) rfl
 have m2 := HN_1.out.cell 2 (v := .int .i64 e.n2) rfl
 have m3 := HN_1.out.cell 3 (v := .int .i64 e.n3) rfl
 go_wp2_with fail
 refine Calls.mono (rz w1 B F M HM_1.out rp _ e.n0 e.n1 e.n2 HR_1.out HT_1.out.cu) ?_
 rintro r w2 ⟨rfl, h1, h2⟩
 have HR_2 : Hid (RO _ _ _ _) := h1
 have HB_2 : Hid (But (fun i => i = rp) w w2) := HB_1.out.trans h2 (fun i _ hx => hx)
 have HM_2 : Hid (MD w2 B F M) := HM_1.out.ro HR_1.out h2
 clear h1 h2 HR_1 HB_1 HM_1  m0 m1 m2 m3 y
 go_wp2_with fail
 refine bodyPost_end (v := .tuple #[]) (by simp [results, results74, go_sem]) rfl ?_
 refine ⟨rfl, ?_, HB_2.out⟩
 have H := HR_2.out
 exact H
theorem vb (w : World) (B : Nat) (F : FB) (M : PM) (hM : MD w B F M) (rp : Nat) (l : Int) (h : RO w rp F.pm l) (e : EV) (he : e.ok) (tv : Value) (R : Tr w tv e.ts) (hno : ∀ n c, tv = .slice none n c → c = 0) (T : TBL w) (hrp : 6 ≤ rp) (hop : e.op = 12) :
  Calls prog 74 #[.pointer (some ⟨rp, 0, none⟩), .agg (e.cells tv).toArray] w fun r w' => r = .returned (.tuple #[]) ∧ RO w' rp F.pm (exchL M l e.n0 e.n1 e.n2) ∧ But (fun i => i = rp) w w' := by
 obtain ⟨HE0, HB0, HN0, y0, y1, y2, y3, y4, y5, y6, y7⟩ := cr w e tv
 have HTF := eTF R
 have HH : Hid (MD w B F M ∧ RO w rp F.pm l ∧ Tr w tv e.ts ∧ TBL w) := ⟨hM, h, R, T⟩
 have HQ : Hid (6 ≤ rp ∧ e.ok ∧ (∀ n c, tv = .slice none n c → c = 0) ∧ rp < w.heap.size) := ⟨hrp, he, hno, VA.lt h⟩
 have HOP : Hid (e.op = 12) := hop
 clear hM h R T hrp he hno hop
 go_enter func74, ntmps74
 go_upto_region 2 with (refine eSt e HN0 ?_; intro w1 hv1 hu1)
 have hb1 := hu1.bel HB0.out (by omega)
 have HM_1 : Hid (MD w1 B F M) := HH.out.1.step hb1
 have HR_1 : Hid (RO w1 rp F.pm l) := HH.out.2.1.step hb1
 have HB_1 : Hid (But (fun i => i = rp) w w1) := ac hb1 _
 have HTR_1 : Hid (Tr w1 tv e.ts) := HH.out.2.2.1.step hb1
 have HT_1 : Hid (TBL w1) := HH.out.2.2.2.step hb1
 have HE_1 := hI_ (HE0.out.upd hu1 (by omega))
 have HN_1 := hI_ hv1
 have y := eY 12 HE_1 HOP
 clear hb1 hv1 hu1 HN0 HE0 HB0 HH y0 y1 y2 y3 y4 y5 y6 y7
 have m0 := HN_1.out.cell 0 (v := .int .i64 e.n0) rfl
 have m1 := HN_1.out.cell 1 (v := .int .i64 e.n1) rfl
 have m2 := HN_1.out.cell 2 (v := .int .i64 e.n2) rfl
 have m3 := HN_1.out.cell 3 (v := .int .i64 e.n3) rfl
 go_wp2_with fail
 refine Calls.mono (rk w1 B F M HM_1.out rp _ e.n0 e.n1 e.n2 HR_1.out HT_1.out HQ.out.1) ?_
 rintro r w2 ⟨rfl, h1, h2⟩
 have HR_2 : Hid (RO _ _ _ _) := h1
 have HB_2 : Hid (But (fun i => i = rp) w w2) := HB_1.out.trans h2 (fun i _ hx => hx)
 have HM_2 : Hid (MD w2 B F M) := HM_1.out.ro HR_1.out h2
 clear h1 h2 HR_1 HB_1 HM_1  m0 m1 m2 m3 y
 go_wp2_with fail
 refine bodyPost_end (v := .tuple #[]) (by simp [results, results74, go_sem]) rfl ?_
 refine ⟨rfl, ?_, HB_2.out⟩
 have H := HR_2.out
 exact H
end Go.Proofs.YtjkiplndbcmmbaaGreatDoor