/- log IV: slices.Backward over numbers. -/
import Derived.Test.YtkmdegmpffgplaaGreatDoorLbe
import Derived.RangeFuncNested
import Derived.RangeFuncBound
import Derived.RangeFuncCalls
import Derived.RangeFuncLeaves
import Derived.Shelf.Abstract
import Derived.Shelf.RegionOpen
import Derived.OwnWalkIn
import Derived.TacticsInMore
import Derived.LoopNIn
import Derived.LoopIn
namespace Go.Proofs.YtkmdegmpffgplaaGreatDoor
open Go.RowKit Go.Shelf pk
set_option linter.unusedVariables false
set_option linter.unusedSimpArgs false
attribute [local go_sem] Oper.semAt_some

/-- what has come when k rounds are over -/
def upto {α : Type} (f : Nat → α) (k : Nat) : List α := (List.range k).map f
theorem upto_succ {α : Type} (f : Nat → α) (k : Nat) : upto f (k + 1) = upto f k ++ [f k] := by simp [upto, List.range_succ]
theorem upto_length {α : Type} (f : Nat → α) (k : Nat) : (upto f k).length = k := by simp [upto]
/-- the j-th from the back -/
def bk (ks : List Nat) (d0 : Nat) (j : Nat) : Int × Nat := ((ks.length : Int) - 1 - j, ks.getD (ks.length - 1 - j) d0)
/-- what comes: a place, and a number that is one -/
abbrev KE (P : Nat → Prop) := { x : Int × Nat // P x.2 }
def encK {P : Nat → Prop} (x : KE P) : Array Value := #[.int .i64 x.1.1, .int .i64 (x.1.2 : Int)]
def bkS {P : Nat → Prop} (ks : List Nat) (d0 : Nat) (h : ∀ j, P (ks.getD j d0)) (j : Nat) : KE P := ⟨bk ks d0 j, h _⟩
set_option maxRecDepth 100000 in
set_option maxHeartbeats 2000000 in
theorem back1_in (F : Fence) (n : Nat) (h8 : F.fn 115) (hro : F.round = none) (hn : 1 ≤ n) (l Bs n₀ cap len : Nat) (sa : Option Addr) {P : Nat → Prop} (ks : List Nat) (d0 : Nat) (hwf : ∀ j, P (ks.getD j d0)) (hlen : len = ks.length) (hl : len ≤ 64) (J Jx : List (KE P) → World → Prop)
    (hY : ∀ pre x W, J pre W → pre.length < len → YieldAt F (n - 1) Tryz.prog l (encK x) W fun e W' =>
      (e = .returned (.bool true) ∧ J (pre ++ [x]) W' ∧ Below n₀ W W') ∨ (e = .returned (.bool false) ∧ Jx (pre ++ [x]) W'))
    (W : World) (hBs : W.cell? ⟨Bs, 0, none⟩ = some (.slice sa len cap)) (hBl : Bs < n₀) (hcap : len ≤ cap ∧ cap ≤ 9223372036854775807) (hc : 0 < len → ∃ b off, sa = some ⟨b, off, none⟩ ∧ b < n₀ ∧ ∀ j, j < len → W.cell? ⟨b, off + j, none⟩ = some (.int .i64 ((ks.getD j d0 : Nat) : Int))) (h0 : J [] W) :
    CallsIn F n Tryz.prog 115 #[.func (.yield l) #[] #[], .pointer (some ⟨Bs, 0, none⟩)] W fun e W' => (∃ v, e = .returned v) ∧
      ((∃ ys, ys = upto (bkS ks d0 hwf) len ∧ J ys W') ∨ (∃ pre, (∃ k, k ≤ len ∧ pre = upto (bkS ks d0 hwf) k) ∧ Jx pre W')) := by
  have HC := (show Hid _ from hc)
  have HLEN := (show Hid _ from hlen)
  clear hc hlen
  refine callsIn_of_wp Tryz.func115 rfl h8 ?_ hro
  simp only [Tryz.ntmps115, List.size_toArray, List.length_cons, List.length_nil, Nat.reduceAdd, Nat.reduceSub, Array.replicate_succ, Array.replicate_zero, List.push_toArray, List.append_toArray, List.nil_append, List.cons_append]
  gi_wp2
  gi_loopw [3] (fun i wr => ∃ k : Nat, k ≤ len ∧ i = .int .i64 ((len : Int) - 1 - k) ∧ Hid (J (upto (bkS ks d0 hwf) k) wr) ∧ Hid (Below n₀ W wr))
    (fun i _ => (intOf i + 1).toNat)
  case atStart => exact ⟨0, Nat.zero_le _, by simp, h0, Below.refl _ _⟩
  case round =>
    obtain ⟨k, hk, rfl, hJs, hnx⟩ := hrel
    by_cases hlt : k < len
    · obtain ⟨m, hm⟩ : ∃ m, len = m + 1 + k := ⟨len - 1 - k, by omega⟩
      have em : (len : Int) - 1 - k = (m : Int) := by omega
      rw [em]
      have eb : (bkS ks d0 hwf k).1 = ((m : Int), ks.getD m d0) := by
        show bk ks d0 k = _
        unfold bk
        rw [← HLEN.out, em, show len - 1 - k = m by omega]
      obtain ⟨fn, tmps, assign, body, hy, hR⟩ := hY _ (bkS ks d0 hwf k) wr hJs.out (by rw [upto_length]; exact hlt)
      have HR := (show Hid _ from hR)
      have HE := (show Hid _ from eb)
      have HEM := (show Hid _ from em)
      have HM := (show Hid _ from hm)
      unfold encK at hy
      rw [eb] at hy
      obtain ⟨b, off, rfl, hb, hcs⟩ := HC.out (by omega)
      have z1 := (hnx.out.cell (p := ⟨b, off + m, none⟩) hb).trans (hcs m (by omega))
      have y1 := (hnx.out.cell (p := ⟨Bs, 0, none⟩) hBl).trans hBs
      have d1 : (0 : Int) ≤ (m : Int) := by omega
      have d2 : (m : Int) < (len : Int) := by omega
      clear hR eb em hm hcs
      generalize ks.getD m d0 = key at *
      dsimp only at hy
      gi_wp2
      refine RoundIn.mono HR.out ?_
      rintro e W3 (⟨rfl, hJ3, hk3⟩ | ⟨rfl, hJx3⟩)
      · have HJ3 := (show Hid _ from hJ3)
        have HK3 := (show Hid _ from hk3)
        clear hJ3 hk3
        gi_wp2
        go_roundw
        case rel => exact ⟨k + 1, by omega, by have := HEM.out; have e : (m : Int) - 1 = (len : Int) - 1 - ((k + 1 : Nat) : Int) := by omega
                                               rw [← e], by show J _ _; rw [upto_succ]; exact HJ3.out, hnx.out.trans HK3.out⟩
        case measure => simp [intOf]
      · have HJ3 := (show Hid _ from hJx3)
        clear hJx3
        gi_wp2
        refine bodyPost_ret (results_none rfl _ _ _) rfl ?_
        exact ⟨⟨_, rfl⟩, .inr ⟨_, ⟨k + 1, by omega, (upto_succ _ _).symm⟩, HJ3.out⟩⟩
    · obtain rfl : k = len := by omega
      rw [show (k : Int) - 1 - k = -1 by omega]
      gi_wp2
      go_end0
      exact ⟨⟨_, rfl⟩, .inl ⟨_, rfl, hJs.out⟩⟩
theorem back_in (F : Fence) (n : Nat) (h5 : F.fn 98) (hro : F.round = none) (a : Option Addr) (len cap : Nat) (w : World) :
    CallsIn F n Tryz.prog 98 #[.slice a len cap] w fun e w' => e = .returned (.func (.func 115) #[] #[.pointer (some ⟨w.heap.size, 0, none⟩)]) ∧ w' = w.alloc (.cells #[.slice a len cap] 47) := by
  refine callsIn_of_wp Tryz.func98 rfl h5 ?_ hro
  simp only [Tryz.ntmps98, List.size_toArray, List.length_cons, List.length_nil, Nat.reduceAdd, Nat.reduceSub, Array.replicate_succ, Array.replicate_zero, List.push_toArray, List.append_toArray, List.nil_append, List.cons_append]
  gi_wp2
  go_ret
  exact ⟨rfl, rfl⟩
theorem back_stops (F : Fence) (n : Nat) (h7 : F.fn 115) (hro : F.round = none) (hn : 1 ≤ n) (Bs n₀ cap len : Nat) (sa : Option Addr) {P : Nat → Prop} (ks : List Nat) (d0 : Nat) (hwf : ∀ j, P (ks.getD j d0)) (hlen : len = ks.length) (hl : len ≤ 64) (w : World) (hBs : Bs < n₀) (hn₀ : n₀ ≤ w.heap.size)
    (hc : w.cell? ⟨Bs, 0, none⟩ = some (.slice sa len cap)) (hcap : len ≤ cap ∧ cap ≤ 9223372036854775807) (hI : 0 < len → ∃ b off, sa = some ⟨b, off, none⟩ ∧ b < n₀ ∧ ∀ j, j < len → w.cell? ⟨b, off + j, none⟩ = some (.int .i64 ((ks.getD j d0 : Nat) : Int))) :
    SeqStopsK F n Tryz.prog 115 #[.pointer (some ⟨Bs, 0, none⟩)] encK (Below n₀) (fun ys => ys = upto (bkS ks d0 hwf) len) (fun pre => ∃ k, k ≤ len ∧ pre = upto (bkS ks d0 hwf) k) len w := fun l J Jx W hW _ _ hY h0 => by
  have hc' := (hW.cell (p := ⟨Bs, 0, none⟩) (by show Bs < _; omega)).trans hc
  refine back1_in F n h7 hro hn l Bs n₀ cap len sa ks d0 hwf hlen hl J Jx hY W hc' hBs hcap (fun h => ?_) h0
  obtain ⟨b, off, e, hb, hx⟩ := hI h
  exact ⟨b, off, e, hb, fun j hj => (hW.cell (p := ⟨b, off + j, none⟩) (by show b < _; omega)).trans (hx j hj)⟩
end Go.Proofs.YtkmdegmpffgplaaGreatDoor
/- log XI: discard, where there is nothing to do away with. -/
namespace Go.Proofs.YtkmdegmpffgplaaGreatDoor
open Go.RowKit Go.Maps Go.Sort Go.Shelf pk
set_option linter.unusedVariables false
set_option linter.unusedSimpArgs false
theorem kee_grown {X Y : World} {row : Option Nat} (hg : X.grownBy Y row) (hr : ∀ r, row = some r → ∃ o : Obj, X.heap[r]? = some o ∧ o.isCells = false) : Kee X Y := by
  cases row with
  | none => exact Kee.bel ⟨hg.os, hg.tape, hg.output, hg.size, fun i hi => hg.block i hi (by simp)⟩
  | some r => obtain ⟨o, ho, hc⟩ := hr r rfl; exact Kee.row hg ho (Or.inl hc)
theorem keeps_upd {w w' : World} {p : Nat} {cs : List Value} {T : TypeId} (h : VA w p cs T) (k : Upd p w w') : KeepsOthers w w' := ⟨by rw [k.size]; exact Nat.le_refl _, fun j o h0 ho => by
  refine (k.block j ?_).trans h0
  rintro rfl
  rw [h.blk] at h0
  cases h0
  simp [Obj.isCells] at ho⟩
attribute [local go_sem] Oper.semAt_some ext_cell ext_frozen ext_drew ext_of_drew ext_of_drewN ext_setCell ext_lt ext_lt1 ext_lt2 ext_lt3 lt_n2 lt_n3 lt_n4 lt_n5 lt_n6
set_option maxRecDepth 100000 in
set_option maxHeartbeats 4000000 in
theorem discard_none (w : World) (lp : Nat) (kept : Int) (ra : Option Addr) (rc : Nat) (ja : Option Addr) (jc : Nat) (hjc : jc ≤ 9223372036854775807) :
    Calls Tryz.prog 75 #[.pointer (some ⟨lp, 0, none⟩), .int .i64 kept, .slice ra 0 rc, .slice ja 0 jc] w fun e w' => e = .returned (.int .i64 0) ∧ Below w.heap.size w w' := by
  have b1 := (Below.refl w.heap.size w).alloc (Nat.le_refl _) (.cells #[.pointer (some ⟨lp, 0, none⟩)] 23)
  have b2 := b1.alloc b1.size (.cells #[.int .i64 0] 24)
  have b3 := b2.alloc b2.size (.cells #[.slice ja 0 jc] 47)
  have v2 := (va_new (w.alloc (.cells #[.pointer (some ⟨lp, 0, none⟩)] 23)) [.int .i64 0] 24).alloc (.cells #[.slice ja 0 jc] 47)
  have v3 := va_new ((w.alloc (.cells #[.pointer (some ⟨lp, 0, none⟩)] 23)).alloc (.cells #[.int .i64 0] 24)) [.slice ja 0 jc] 47
  simp only [World.size_alloc] at v2 v3
  have HB3 := (show Hid _ from b3)
  have HV2 := (show Hid _ from v2)
  have HV3 := (show Hid _ from v3)
  clear b1 b2 b3 v2 v3
  refine (callsIn_wide (n := 8)).1 ?_
  have hF : ∀ f, Fence.wide.fn f := fun _ => trivial
  have hF1 := hF 98
  refine callsIn_of_wp_marks Tryz.func75 rfl trivial ?_ rfl
  simp only [Tryz.ntmps75, List.size_toArray, List.length_cons, List.length_nil, Nat.reduceAdd, Nat.reduceSub, Array.replicate_succ, Array.replicate_zero, List.push_toArray, List.append_toArray, List.nil_append, List.cons_append]
  gi_wp2
  refine CallsIn.mono (back_in Fence.wide 7 trivial rfl _ _ _ _) ?_
  rintro e w' ⟨rfl, rfl⟩
  obtain ⟨W6, hW6⟩ : ∃ W6, W6 = ((w.alloc (.cells #[.pointer (some ⟨lp, 0, none⟩)] 23)).alloc (.cells #[.int .i64 0] 24)).alloc (.cells #[.slice ja 0 jc] 47) := ⟨_, rfl⟩
  rw [← hW6] at HB3 HV2 HV3 ⊢
  clear hW6
  rw [show ((w.alloc (.cells #[.pointer (some ⟨lp, 0, none⟩)] 23)).alloc (.cells #[.int .i64 0] 24)).heap.size = w.heap.size + 1 + 1 by simp]
  gi_wp2
  refine wpIn_rangeFunc_ownH rfl (by omega) (gf := 115) (lb := #[.pointer (some ⟨w.heap.size + 1 + 1, 0, none⟩)]) rfl trivial (enters_of Tryz.func115 (by kernel_rfl) rfl)
    (back_stops Fence.wide (8 - 1) trivial rfl (by omega) (w.heap.size + 1 + 1) W6.heap.size jc 0 ja (P := fun _ => True) [] 0 (fun _ => trivial) rfl (by omega) W6 HV3.out.lt (Nat.le_refl _) (HV3.out.cell 0 rfl) ⟨by omega, hjc⟩ (fun h => absurd h (by omega))) belowK_t (belowK_b (Nat.le_refl _)) (Below.refl _ _) (fun _ => rfl)
    (fun pre W => VA W (w.heap.size + 1) [.int .i64 0] 24 ∧ Below w.heap.size w W)
    (fun c pre W => False)
    (OwnFrom.and (Own.from (fun s X Y row hs hg hr => hs.kee (kee_grown hg hr) (by unfold Dt; decide)) _) (ownFrom_below (Nat.le_refl _) (HB3.out.size)))
    (fun _ _ _ _ _ h _ _ => h)
    ⟨HV2.out, HB3.out⟩
    (fun y a' W => True)
    (fun y a' _ X Y row hs hg hr => trivial)
    ?assign ?body ?done ?stop
  case assign =>
    rintro l pre y W K ⟨hc, hB⟩ hK
    obtain ⟨⟨y1, y2⟩, hy⟩ := y
    have HCC := (show Hid _ from hc)
    unfold encK
    dsimp only
    clear hc
    gi_wp2
    exact hK _ _ (KeepsFrom.refl _ _) (Below.refl _ _) ⟨HCC.out, hB⟩ trivial
  case body =>
    rintro l pre y a' W hl' ⟨r, hr⟩ ⟨hc, hB⟩ _ hlt
    exact absurd hlt (Nat.not_lt_zero _)
  case done =>
    rintro D ys W hD hys ⟨hc, hB⟩ hK
    have HK := (show Hid _ from hK)
    have HCC := (show Hid _ from hc)
    have FB := (show Hid _ from hB)
    clear hc hB hK hys
    have y1 := HCC.out.cell 0 (v := .int .i64 0) rfl
    have f1 := HCC.out.free 0
    gi_wp2
    clear y1 f1
    have V1 := HCC.out.set 0 (.int .i64 0)
    have U1 := upd_set W (w.heap.size + 1) 0 (.int .i64 0)
    have kk := keeps_upd HCC.out U1
    have hK' := kk.same D _ HK.out rfl
    have bb := U1.bel FB.out (by omega)
    generalize W.setCell ⟨w.heap.size + 1, 0, none⟩ (.int .i64 0) = W9 at *
    clear U1 kk
    refine ⟨by simp, .inl ⟨_, _, rfl, run_takeDeferred hK', ?_⟩⟩
    have kg := kee_grown (grownBy_putObj' W9 D (.deferred none)) (fun r e => by cases e; exact ⟨_, hK', rfl⟩)
    have z1 := (V1.kee kg (by unfold Dt; decide)).cell 0 (v := .int .i64 0) rfl
    refine ⟨.int .i64 0, ?_, rfl, bb.trans (belowK_b (w := w) (Nat.le_refl _) _ D _ _ (Nat.le_trans HB3.out.size hD) hK' rfl rfl)⟩
    simp [results, Tryz.results75, go_sem, asAddr, z1]
  case stop =>
    rintro D c pre V _ _ h _
    exact h.elim
end Go.Proofs.YtkmdegmpffgplaaGreatDoor
