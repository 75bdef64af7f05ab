/- texts of the model: Gj Gk Gl Gm Gn Gp Gz Hb He Hf -/
import Derived.Test.YtjkiplndbcmmbaaGreatDoorW21
import Derived.RangeFuncNested
import Derived.RangeFuncBound
import Derived.RangeFuncCalls
import Derived.RangeFuncLeaves
import Derived.Shelf.Abstract
import Derived.Shelf.RegionOpen
import Derived.OwnWalkIn
import Derived.TacticsInMore
import Derived.LoopNIn
import Derived.LoopIn
import Derived.Test.YtjkiplndbcmmbaaGreatDoorW07
import Derived.Test.YtjkiplndbcmmbaaGreatDoorW20
import Derived.Test.YtjkiplndbcmmbaaGreatDoorW03
import Derived.Laws.OwnMore
set_option linter.unusedVariables false
set_option linter.unusedSimpArgs false
set_option maxHeartbeats 16000000
set_option maxRecDepth 100000
namespace Go.Proofs.YtjkiplndbcmmbaaGreatDoor
open Tryz
open Go.RowKit Go.Shelf
attribute [local go_sem] Oper.semAt_some
def upto {α : Type} (f : Nat → α) (k : Nat) : List α := (List.range k).map f
theorem gb {α : Type} (f : Nat → α) (k : Nat) : upto f (k + 1) = upto f k ++ [f k] := by simp [upto, List.range_succ]
theorem lj {α : Type} (f : Nat → α) (k : Nat) : (upto f k).length = k := by simp [upto]
def bk (ks : List (Int × Int)) (j : Nat) : Int × (Int × Int) := ((ks.length : Int) - 1 - j, ks.getD (ks.length - 1 - j) (0, 0))
abbrev KE := { x : Int × (Int × Int) // I64 x.2.1 ∧ I64 x.2.2 }
def encK (x : KE) : Array Value := #[.int .i64 x.1.1, .agg #[.int .i64 x.1.2.1, .int .i64 x.1.2.2]]
def KW (ks : List (Int × Int)) : Prop := ∀ k ∈ ks, I64 k.1 ∧ I64 k.2
theorem KW.at {ks : List (Int × Int)} (h : KW ks) (j : Nat) : I64 (ks.getD j (0, 0)).1 ∧ I64 (ks.getD j (0, 0)).2 := by
 by_cases hj : j < ks.length
 ·exact h _ (by simp [hj])
 ·rw [List.getD, List.getElem?_eq_none (Nat.le_of_not_lt hj)]
  unfold I64
  simp
def bkS (ks : List (Int × Int)) (h : KW ks) (j : Nat) : KE := ⟨bk ks j, h.at _⟩
theorem pB (F : Fence) (n : Nat) (h8 : F.fn 207) (hro : F.round = none) (hn : 1 ≤ n) (l Bs n₀ cap len : Nat) (sa : Option Addr) (ks : List (Int × Int)) (hwf : KW ks) (hlen : len = ks.length) (hl : len ≤ 64) (J Jx : List KE → World → Prop)
    (hY : ∀ pre x W, J pre W → pre.length < len → YieldAt F (n - 1) prog l (encK x) W fun e W' =>
      (e = .returned (.bool true) ∧ J (pre ++ [x]) W' ∧ Below n₀ W W') ∨ (e = .returned (.bool false) ∧ Jx (pre ++ [x]) W'))
    (W : World) (hBs : W.cell? ⟨Bs, 0, none⟩ = some (.slice sa len cap)) (hBl : Bs < n₀) (hcap : len ≤ cap ∧ cap ≤ 9223372036854775807) (hc : 0 < len → ∃ b off, sa = some ⟨b, off, none⟩ ∧ b < n₀ ∧ ∀ j, j < len → W.cell? ⟨b, off + j * 2, none⟩ = some (.int .i64 (ks.getD j (0, 0)).1) ∧ W.cell? ⟨b, off + j * 2 + 1, none⟩ = some (.int .i64 (ks.getD j (0, 0)).2)) (h0 : J [] W) :
    CallsIn F n prog 207 #[.func (.yield l) #[] #[], .pointer (some ⟨Bs, 0, none⟩)] W fun e W' => (∃ v, e = .returned v) ∧
      ((∃ ys, ys = upto (bkS ks hwf) len ∧ J ys W') ∨ (∃ pre, (∃ k, k ≤ len ∧ pre = upto (bkS ks hwf) k) ∧ Jx pre W')) := by
  have HC := hI_ hc
  have HLEN := hI_ hlen
  clear hc hlen
  refine callsIn_of_wp func207 rfl h8 ?_ hro
  simp only [ntmps207, List.size_toArray, List.length_cons, List.length_nil, Nat.reduceAdd, Nat.reduceSub, Array.replicate_succ, Array.replicate_zero, List.push_toArray, List.append_toArray, List.nil_append, List.cons_append]
  gi_wp2
  gi_loopw [3] (fun i wr => ∃ k : Nat, k ≤ len ∧ i = .int .i64 ((len : Int) - 1 - k) ∧ Hid (J (upto (bkS ks hwf) k) wr) ∧ Hid (Below n₀ W wr))
    (fun i _ => (intOf i + 1).toNat)
  case atStart => exact ⟨0, Nat.zero_le _, by simp, h0, Below.refl _ _⟩
  case round =>
    obtain ⟨k, hk, rfl, hJs, hnx⟩ := hrel
    by_cases hlt : k < len
    · obtain ⟨m, hm⟩ : ∃ m, len = m + 1 + k := ⟨len - 1 - k, by omega⟩
      have em : (len : Int) - 1 - k = (m : Int) := by omega
      rw [em]
      have eb : (bkS ks hwf k).1 = ((m : Int), ks.getD m (0, 0)) := by
        show bk ks k = _
        unfold bk
        rw [← HLEN.out, em, show len - 1 - k = m by omega]
      obtain ⟨fn, tmps, assign, body, hy, hR⟩ := hY _ (bkS ks hwf k) wr hJs.out (by rw [lj]; exact hlt)
      have HR := hI_ hR
      have HE := hI_ eb
      have HEM := hI_ em
      have HM := hI_ hm
      unfold encK at hy
      rw [eb] at hy
      obtain ⟨b, off, rfl, hb, hcs⟩ := HC.out (by omega)
      have z1 := (hnx.out.cell (p := ⟨b, off + m * 2, none⟩) hb).trans (hcs m (by omega)).1
      have z2 := (hnx.out.cell (p := ⟨b, off + m * 2 + 1, none⟩) hb).trans (hcs m (by omega)).2
      have y1 := (hnx.out.cell (p := ⟨Bs, 0, none⟩) hBl).trans hBs
      have d1 : (0 : Int) ≤ (m : Int) := by omega
      have d2 : (m : Int) < (len : Int) := by omega
      clear hR eb em hm hcs
      generalize ks.getD m (0, 0) = key at *
      obtain ⟨kid, kday⟩ := key
      dsimp only at hy
      gi_wp2
      refine RoundIn.mono HR.out ?_
      rintro e W3 (⟨rfl, hJ3, hk3⟩ | ⟨rfl, hJx3⟩)
      · have HJ3 := hI_ hJ3
        have HK3 := hI_ hk3
        clear hJ3 hk3
        gi_wp2
        go_roundw
        case rel => exact ⟨k + 1, by omega, by have := HEM.out; have e : (m : Int) - 1 = (len : Int) - 1 - ((k + 1 : Nat) : Int) := by omega
                                               rw [← e], by show J _ _; rw [gb]; exact HJ3.out, hnx.out.trans HK3.out⟩
        case measure => simp [intOf]
      · have HJ3 := hI_ hJx3
        clear hJx3
        gi_wp2
        refine bodyPost_ret (results_none rfl _ _ _) rfl ?_
        exact ⟨⟨_, rfl⟩, .inr ⟨_, ⟨k + 1, by omega, (gb _ _).symm⟩, HJ3.out⟩⟩
    · obtain rfl : k = len := by omega
      rw [show (k : Int) - 1 - k = -1 by omega]
      gi_wp2
      go_end0
      exact ⟨⟨_, rfl⟩, .inl ⟨_, rfl, hJs.out⟩⟩
theorem sz (F : Fence) (n : Nat) (h5 : F.fn 195) (hro : F.round = none) (a : Option Addr) (len cap : Nat) (w : World) :
  CallsIn F n prog 195 #[.slice a len cap] w fun e w' => e = .returned (.func (.func 207) #[] #[.pointer (some ⟨w.heap.size, 0, none⟩)]) ∧ w' = w.alloc (.cells #[.slice a len cap] 152) := by
 refine callsIn_of_wp func195 rfl h5 ?_ hro
 simp only [ntmps195, List.size_toArray, List.length_cons, List.length_nil, Nat.reduceAdd, Nat.reduceSub, Array.replicate_succ, Array.replicate_zero, List.push_toArray, List.append_toArray, List.nil_append, List.cons_append]
 gi_wp2
 go_ret
 exact ⟨rfl, rfl⟩
theorem lM (F : Fence) (n : Nat) (h7 : F.fn 207) (hro : F.round = none) (hn : 1 ≤ n) (Bs n₀ cap len : Nat) (sa : Option Addr) (ks : List (Int × Int)) (hwf : KW ks) (hlen : len = ks.length) (hl : len ≤ 64) (w : World) (hBs : Bs < n₀) (hn₀ : n₀ ≤ w.heap.size)
  (hc : w.cell? ⟨Bs, 0, none⟩ = some (.slice sa len cap)) (hcap : len ≤ cap ∧ cap ≤ 9223372036854775807) (hI : 0 < len → ∃ b off, sa = some ⟨b, off, none⟩ ∧ b < n₀ ∧ ∀ j, j < len → w.cell? ⟨b, off + j * 2, none⟩ = some (.int .i64 (ks.getD j (0, 0)).1) ∧ w.cell? ⟨b, off + j * 2 + 1, none⟩ = some (.int .i64 (ks.getD j (0, 0)).2)) :
  SeqStopsK F n prog 207 #[.pointer (some ⟨Bs, 0, none⟩)] encK (Below n₀) (fun ys => ys = upto (bkS ks hwf) len) (fun pre => ∃ k, k ≤ len ∧ pre = upto (bkS ks hwf) k) len w := fun l J Jx W hW _ _ hY h0 => by
 have hc' := (hW.cell (p := ⟨Bs, 0, none⟩) (by show Bs < _; omega)).trans hc
 refine pB F n h7 hro hn l Bs n₀ cap len sa ks hwf hlen hl J Jx hY W hc' hBs hcap (fun h => ?_) h0
 obtain ⟨b, off, e, hb, hx⟩ := hI h
 exact ⟨b, off, e, hb, fun j hj => ⟨(hW.cell (p := ⟨b, off + j * 2, none⟩) (by show b < _; omega)).trans (hx j hj).1, (hW.cell (p := ⟨b, off + j * 2 + 1, none⟩) (by show b < _; omega)).trans (hx j hj).2⟩⟩
end Go.Proofs.YtjkiplndbcmmbaaGreatDoor
namespace Go.Proofs.YtjkiplndbcmmbaaGreatDoor
open Tryz
open Go.RowKit Go.Shelf
attribute [local go_sem] Oper.semAt_some ap ai ar af ae ag aD av ax ay aN aO aP aQ aR
theorem VA.kept {A B : World} {p : Nat} {cs : List Value} {T : TypeId} {row : Option Nat} (h : VA A p cs T) (hg : A.grownBy B row) (hr : ∀ r, row = some r → ∃ o, A.heap[r]? = some o ∧ o.isCells = false) : VA B p cs T := by
 refine ⟨(hg.block p h.lt (fun e => ?_)).trans h.blk⟩
 obtain ⟨o, ho, hc⟩ := hr p e.symm
 rw [h.blk] at ho
 cases ho
 simp [Obj.isCells] at hc
theorem kz {w w' : World} (h : Below w.heap.size w w') : KeepsOthers w w' := ⟨h.size, fun k o h0 _ => (h.block k (Array.getElem?_eq_some_iff.1 h0).1).trans h0⟩
theorem eo {w w' : World} {p : Nat} {cs : List Value} {T : TypeId} (h : VA w p cs T) (k : Upd p w w') : KeepsOthers w w' := ⟨by rw [k.size]; exact Nat.le_refl _, fun j o h0 ho => by
 refine (k.block j ?_).trans h0
 rintro rfl
 rw [h.blk] at h0
 cases h0
 simp [Obj.isCells] at ho⟩
theorem xU {F : Fence} {n : Nat} {w : World} {ops : Array Oper} {rest : List Oper} {o : Oper} {a : Act} {Q : Exit → Act → World → Prop} (hgd : o.guard = none) (t : TypeId) (x y : Operand) (ho : o.op = .store t x y)
  (p : Nat) (hx : a.eval x = .pointer (some ⟨p, 0, none⟩)) (cs ds : List Value) (hy : a.eval y = .agg ds.toArray) (T : TypeId) (h : VA w p cs T) (hi : (prog.info? t).map (·.size) = some ds.length) (hl : cs.length = ds.length) (h1 : ∀ v ∈ ds, v.oneCell' = true)
  (k : ∀ w', VA w' p ds T → Upd p w w' → wpListIn F n prog ops Q rest (a.put o.dst undef) w') : wpListIn F n prog ops Q (o :: rest) a w := by
 refine wpListIn_plain hgd fun K hK' => ?_
 have hrun := run_storeVar_row (P := prog) w p T t cs.toArray ds.toArray h.blk (by simpa using hi) (by simpa using hl) (Array.all_eq_true_iff_forall_mem.2 (fun v hv => h1 v (by simpa using hv)))
 unfold Oper.wpIn
 refine ⟨by simp [Oper.about, ho], ?_⟩
 rw [Oper.semAt_plain F _ _ (by rw [ho]; intro c hc'; cases hc')]
 unfold execOp
 simp only [ho, hx, hy, Instr.storeAt, Instr.sureAddr, Sem.run_bind, Sem.run_pure, Result.andThen_ok, hrun]
 exact hK' _ _ (k _ ⟨setRow_heap w p _ _ _ _ h.blk⟩ (cK w p _))
theorem ldB {w : World} {p : Nat} {b : Bool} (h : VA w p [.bool b] 4) : (loadVar 4 ⟨p, 0, none⟩).run prog w = .ok (.bool b) w := by
 have hc := h.cell 0 (v := .bool b) rfl
 simp [go_sem, hc]
theorem dX : ∀ v ∈ ([.int .i64 0, .int .i64 0, .int .i64 0, .int .i64 0, .int .i64 0, .int .i64 0, .int .i64 0, .int .i64 0, .slice none 0 0] : List Value), v.oneCell' = true := bD zeroV ⟨_, _, _, rfl⟩
def fits (id day : Int) (k : Int × Int) : Prop := k.1 = id ∧ k.2 ≤ day
instance (id day : Int) (k : Int × Int) : Decidable (fits id day k) := by unfold fits; exact inferInstance
def NoFit (id day : Int) (pre : List KE) : Prop := ∀ x ∈ pre, ¬ fits id day x.1.2
theorem NoFit.snoc {id day : Int} {pre : List KE} (h : NoFit id day pre) {x : KE} (hx : ¬ fits id day x.1.2) : NoFit id day (pre ++ [x]) := by
 intro y hy
 rcases List.mem_append.1 hy with hy | hy
 ·exact h y hy
 ·simp only [List.mem_cons, List.not_mem_nil, or_false] at hy
  subst hy
  exact hx
theorem OwnK.at {w : World} {B : Nat} {sa : Option Addr} {n cap : Nat} {ks : List (Int × Int)} (h : OwnK w B (.slice sa n cap) ks) : n = ks.length ∧ (n ≤ cap ∧ cap ≤ 9223372036854775807) ∧ (0 < n → ∃ b off, sa = some ⟨b, off, none⟩ ∧ b < w.heap.size ∧ ∀ j, j < n → w.cell? ⟨b, off + j * 2, none⟩ = some (.int .i64 (ks.getD j (0, 0)).1) ∧ w.cell? ⟨b, off + j * 2 + 1, none⟩ = some (.int .i64 (ks.getD j (0, 0)).2)) := by
 obtain ⟨_, a, c, e, h1, h2, h3⟩ := h.tr
 cases e
 refine ⟨rfl, ⟨h1, h2⟩, fun h0 => ?_⟩
 obtain ⟨b, off, e, hb, hx⟩ := h3 h0
 exact ⟨b, off, e, hb, fun j hj => by have := hx j hj; rw [Nat.mul_comm 2 j] at this; exact this⟩
theorem m9 (n : Nat) (hn : 3 ≤ n) (p bm sn cap N : Nat) (sa : Option Addr) (f : Lit → Option Value) (id day : Int) (ks : List (Int × Int)) (w : World)
  (HV : VA w p [.map (some bm), .slice sa sn cap] 154) (HM : MapF w 208 bm N f) (hsn : sn = ks.length) (hl : sn ≤ 64) (hcap : sn ≤ cap ∧ cap ≤ 9223372036854775807)
  (hc : 0 < sn → ∃ b off, sa = some ⟨b, off, none⟩ ∧ b < w.heap.size ∧ ∀ j, j < sn → w.cell? ⟨b, off + j * 2, none⟩ = some (.int .i64 (ks.getD j (0, 0)).1) ∧ w.cell? ⟨b, off + j * 2 + 1, none⟩ = some (.int .i64 (ks.getD j (0, 0)).2))
  (hwf : KW ks) (hin : ∀ a b, I64 a → I64 b → ∃ cs : List Value, cs.length = 9 ∧ (∀ v ∈ cs, v.oneCell' = true) ∧ (f (kl a b)).getD (.agg #[.int .i64 0, .int .i64 0, .int .i64 0, .int .i64 0, .int .i64 0, .int .i64 0, .int .i64 0, .int .i64 0, .slice none 0 0]) = .agg cs.toArray) :
  CallsIn Fence.wide n prog 173 #[.pointer (some ⟨p, 0, none⟩), .int .i64 id, .int .i64 day] w fun e W' =>
   ((e = .returned (.tuple #[.agg #[.int .i64 0, .int .i64 0, .int .i64 0, .int .i64 0, .int .i64 0, .int .i64 0, .int .i64 0, .int .i64 0, .slice none 0 0], .bool false]) ∧ ∀ k ∈ ks, ¬ fits id day k) ∨ (∃ j cs, j < ks.length ∧ fits id day (ks.getD j (0, 0)) ∧ (∀ i, j < i → i < ks.length → ¬ fits id day (ks.getD i (0, 0))) ∧ (f (kl (ks.getD j (0, 0)).1 (ks.getD j (0, 0)).2)).getD (.agg #[.int .i64 0, .int .i64 0, .int .i64 0, .int .i64 0, .int .i64 0, .int .i64 0, .int .i64 0, .int .i64 0, .slice none 0 0]) = .agg cs ∧ e = .returned (.tuple #[.agg cs, .bool true]))) ∧ Below w.heap.size w W' := by
 have h1 : 1 ≤ n := by omega
 have hF : ∀ f, Fence.wide.fn f := fun _ => trivial
 have hro : Fence.wide.round = none := rfl
 have hz : ∀ w : World, (zeroValue 162).run prog w = .ok (.agg #[.int .i64 0, .int .i64 0, .int .i64 0, .int .i64 0, .int .i64 0, .int .i64 0, .int .i64 0, .int .i64 0, .slice none 0 0]) w := fun _ => by kernel_rfl
 obtain ⟨W0, hW0⟩ : ∃ W0, W0 = (((((w.alloc (.cells #[.pointer (some ⟨p, 0, none⟩)] 92)).alloc (.cells #[.int .i64 id] 2)).alloc (.cells #[.int .i64 day] 3)).alloc (.cells #[.int .i64 0, .int .i64 0, .int .i64 0, .int .i64 0, .int .i64 0, .int .i64 0, .int .i64 0, .int .i64 0, .slice none 0 0] 162)).alloc (.cells #[.bool false] 4)).alloc (.cells #[.slice sa sn cap] 152) := ⟨_, rfl⟩
 have B1 := (Below.refl w.heap.size w).alloc (Nat.le_refl _) (.cells #[.pointer (some ⟨p, 0, none⟩)] 92)
 have B2 := B1.alloc B1.size (.cells #[.int .i64 id] 2)
 have B3 := B2.alloc B2.size (.cells #[.int .i64 day] 3)
 have B4 := B3.alloc B3.size (.cells #[.int .i64 0, .int .i64 0, .int .i64 0, .int .i64 0, .int .i64 0, .int .i64 0, .int .i64 0, .int .i64 0, .slice none 0 0] 162)
 have B5 := B4.alloc B4.size (.cells #[.bool false] 4)
 have B6 := B5.alloc B5.size (.cells #[.slice sa sn cap] 152)
 have c0 := (HV.step B5).cell 0 (v := .map (some bm)) rfl
 have c1 := (HV.step B5).cell 1 (v := .slice sa sn cap) rfl
 have v0 := ((((aa w [.pointer (some ⟨p, 0, none⟩)] 92).alloc (.cells #[.int .i64 id] 2)).alloc (.cells #[.int .i64 day] 3)).alloc (.cells #[.int .i64 0, .int .i64 0, .int .i64 0, .int .i64 0, .int .i64 0, .int .i64 0, .int .i64 0, .int .i64 0, .slice none 0 0] 162)).alloc (.cells #[.bool false] 4) |>.alloc (.cells #[.slice sa sn cap] 152)
 have v1 := (((aa (w.alloc (.cells #[.pointer (some ⟨p, 0, none⟩)] 92)) [.int .i64 id] 2).alloc (.cells #[.int .i64 day] 3)).alloc (.cells #[.int .i64 0, .int .i64 0, .int .i64 0, .int .i64 0, .int .i64 0, .int .i64 0, .int .i64 0, .int .i64 0, .slice none 0 0] 162)).alloc (.cells #[.bool false] 4) |>.alloc (.cells #[.slice sa sn cap] 152)
 have v2 := ((aa ((w.alloc (.cells #[.pointer (some ⟨p, 0, none⟩)] 92)).alloc (.cells #[.int .i64 id] 2)) [.int .i64 day] 3).alloc (.cells #[.int .i64 0, .int .i64 0, .int .i64 0, .int .i64 0, .int .i64 0, .int .i64 0, .int .i64 0, .int .i64 0, .slice none 0 0] 162)).alloc (.cells #[.bool false] 4) |>.alloc (.cells #[.slice sa sn cap] 152)
 have v3 := (aa (((w.alloc (.cells #[.pointer (some ⟨p, 0, none⟩)] 92)).alloc (.cells #[.int .i64 id] 2)).alloc (.cells #[.int .i64 day] 3)) [.int .i64 0, .int .i64 0, .int .i64 0, .int .i64 0, .int .i64 0, .int .i64 0, .int .i64 0, .int .i64 0, .slice none 0 0] 162).alloc (.cells #[.bool false] 4) |>.alloc (.cells #[.slice sa sn cap] 152)
 have v4 := (aa ((((w.alloc (.cells #[.pointer (some ⟨p, 0, none⟩)] 92)).alloc (.cells #[.int .i64 id] 2)).alloc (.cells #[.int .i64 day] 3)).alloc (.cells #[.int .i64 0, .int .i64 0, .int .i64 0, .int .i64 0, .int .i64 0, .int .i64 0, .int .i64 0, .int .i64 0, .slice none 0 0] 162)) [.bool false] 4).alloc (.cells #[.slice sa sn cap] 152)
 have v5 := aa (((((w.alloc (.cells #[.pointer (some ⟨p, 0, none⟩)] 92)).alloc (.cells #[.int .i64 id] 2)).alloc (.cells #[.int .i64 day] 3)).alloc (.cells #[.int .i64 0, .int .i64 0, .int .i64 0, .int .i64 0, .int .i64 0, .int .i64 0, .int .i64 0, .int .i64 0, .slice none 0 0] 162)).alloc (.cells #[.bool false] 4)) [.slice sa sn cap] 152
 simp only [World.size_alloc] at v1 v2 v3 v4 v5
 have hs0 : W0.heap.size = w.heap.size + 1 + 1 + 1 + 1 + 1 + 1 := by rw [hW0]; simp
 rw [← hW0] at v0 v1 v2 v3 v4 v5 B6
 have hs := hI_ hs0
 have HSN := hI_ hsn
 have HCC := hI_ hc
 clear B1 B2 B3 B4 B5 hs0 hsn hc
 refine callsIn_of_wp_marks func173 rfl (hF _) ?_ hro
 simp only [ntmps173, List.size_toArray, List.length_cons, List.length_nil, Nat.reduceAdd, Nat.reduceSub, Array.replicate_succ, Array.replicate_zero, List.push_toArray, List.append_toArray, List.nil_append, List.cons_append]
 gi_wp2_with (gi_at_call 195; refine (sz Fence.wide (n - 1) (hF _) hro _ _ _ _).mono ?_; rintro e w' ⟨rfl, rfl⟩)
 rw [← hW0]
 clear hW0 c0 c1
 have HC2 : 0 < sn → ∃ b off, sa = some ⟨b, off, none⟩ ∧ b < W0.heap.size ∧ ∀ j, j < sn → W0.cell? ⟨b, off + j * 2, none⟩ = some (.int .i64 (ks.getD j (0, 0)).1) ∧ W0.cell? ⟨b, off + j * 2 + 1, none⟩ = some (.int .i64 (ks.getD j (0, 0)).2) := by
  intro h0
  obtain ⟨b, off, e, hb, hx⟩ := HCC.out h0
  exact ⟨b, off, e, Nat.lt_of_lt_of_le hb B6.size, fun j hj => ⟨(B6.cell (p := ⟨b, off + j * 2, none⟩) hb).trans (hx j hj).1, (B6.cell (p := ⟨b, off + j * 2 + 1, none⟩) hb).trans (hx j hj).2⟩⟩
 refine wpIn_rangeFunc_ownH hro h1 (gf := 207) (lb := #[.pointer (some ⟨w.heap.size + 1 + 1 + 1 + 1 + 1, 0, none⟩)]) rfl (hF _) (enters_of func207 (by kernel_rfl) rfl)
  (lM Fence.wide (n - 1) (hF _) hro (by omega) (w.heap.size + 1 + 1 + 1 + 1 + 1) W0.heap.size cap sn sa ks hwf HSN.out hl W0 v5.lt (Nat.le_refl _) (v5.cell 0 rfl) hcap HC2) belowK_t (belowK_b (Nat.le_refl _)) (Below.refl _ _) (fun _ => rfl)
  (fun pre W => (NoFit id day pre ∧ W0.heap.size ≤ W.heap.size ∧ VA W w.heap.size [.pointer (some ⟨p, 0, none⟩)] 92 ∧ VA W (w.heap.size + 1) [.int .i64 id] 2 ∧ VA W (w.heap.size + 1 + 1) [.int .i64 day] 3 ∧ VA W (w.heap.size + 1 + 1 + 1) [.int .i64 0, .int .i64 0, .int .i64 0, .int .i64 0, .int .i64 0, .int .i64 0, .int .i64 0, .int .i64 0, .slice none 0 0] 162 ∧ VA W (w.heap.size + 1 + 1 + 1 + 1) [.bool false] 4) ∧ Below w.heap.size w W)
  (fun c pre W => (c = .ret ∧ ∃ ini last cs, pre = ini ++ [last] ∧ NoFit id day ini ∧ fits id day last.1.2 ∧ cs.length = 9 ∧ (f (kl last.1.2.1 last.1.2.2)).getD (.agg #[.int .i64 0, .int .i64 0, .int .i64 0, .int .i64 0, .int .i64 0, .int .i64 0, .int .i64 0, .int .i64 0, .slice none 0 0]) = .agg cs.toArray ∧ VA W (w.heap.size + 1 + 1 + 1) cs 162 ∧ VA W (w.heap.size + 1 + 1 + 1 + 1) [.bool true] 4) ∧ Below w.heap.size w W)
  (OwnFrom.and (Own.from (fun s A B row hs hg hr => ⟨hs.1, Nat.le_trans hs.2.1 hg.size, hs.2.2.1.kept hg hr, hs.2.2.2.1.kept hg hr, hs.2.2.2.2.1.kept hg hr, hs.2.2.2.2.2.1.kept hg hr, hs.2.2.2.2.2.2.kept hg hr⟩) _) (ownFrom_below (Nat.le_refl _) (by have := hs.out; omega)))
  (fun c => OwnFrom.and (Own.from (fun s A B row hs hg hr => by obtain ⟨hc, ini, last, cs, e1, e2, e3, e4, e5, e6, e7⟩ := hs; exact ⟨hc, ini, last, cs, e1, e2, e3, e4, e5, e6.kept hg hr, e7.kept hg hr⟩) _) (ownFrom_below (Nat.le_refl _) (by have := hs.out; omega)))
  ⟨⟨(fun x hx => (by cases hx)), Nat.le_refl _, v0, v1, v2, v3, v4⟩, B6⟩
  (fun x a' W => ∃ Bx, w.heap.size + 1 + 1 + 1 + 1 + 1 < Bx ∧ VA W Bx [.int .i64 x.1.2.1, .int .i64 x.1.2.2] 208 ∧ a' = { tmps := #[.pointer (some ⟨p, 0, none⟩), .int .i64 id, .int .i64 day, .pointer (some ⟨w.heap.size, 0, none⟩), .pointer (some ⟨w.heap.size + 1, 0, none⟩), .pointer (some ⟨w.heap.size + 1 + 1, 0, none⟩), .pointer (some ⟨w.heap.size + 1 + 1 + 1, 0, none⟩), .pointer (some ⟨w.heap.size + 1 + 1 + 1 + 1, 0, none⟩), undef, .pointer (some ⟨Bx, 0, none⟩), .pointer (some ⟨p, 0, none⟩), .pointer (some ⟨p, 0, none⟩), .pointer (some ⟨p, 1, none⟩), .slice sa sn cap, .func (.func 207) #[] #[.pointer (some ⟨w.heap.size + 1 + 1 + 1 + 1 + 1, 0, none⟩)], .int .i64 x.1.1, .agg #[.int .i64 x.1.2.1, .int .i64 x.1.2.2], undef, undef, undef, undef, undef, undef, undef, undef, undef, undef, undef, undef, undef, undef, undef, undef, undef], defers := [] })
  (fun x a' _ X Y row hs hg hr => by obtain ⟨Bx, h1, h2, h3⟩ := hs; exact ⟨Bx, h1, h2.kept hg (fun r e => (hr r e).2), h3⟩)
  ?assign ?body ?done ?stop
 case assign =>
  rintro l pre x W K ⟨⟨hp, hsz, w0, w1, w2, w3, w4⟩, hB⟩ hK
  obtain ⟨⟨xi, xa, xb⟩, hx1, hx2⟩ := x
  unfold encK
  dsimp only
  gi_wp2
  exact hK _ _ ((KeepsOthers.alloc _ _).from _) ((Below.refl _ W).alloc hsz _) ⟨⟨hp, by simp; omega, w0.alloc _, w1.alloc _, w2.alloc _, w3.alloc _, w4.alloc _⟩, hB.alloc hB.size _⟩ ⟨W.heap.size, by have := hs.out; omega, aa W _ _, rfl⟩
 case body =>
  rintro l pre x a' W hl' ⟨r, hr⟩ ⟨⟨hp, hsz, w0, w1, w2, w3, w4⟩, hB⟩ ⟨Bx, hBx, bX, rfl⟩ hlt
  obtain ⟨⟨xi, xa, xb⟩, hx1, hx2⟩ := x
  dsimp only at hx1 hx2 bX
  have hM := HM.step hB
  have y0 := w0.cell 0 (v := .pointer (some ⟨p, 0, none⟩)) rfl
  have y1 := w1.cell 0 (v := .int .i64 id) rfl
  have y2 := w2.cell 0 (v := .int .i64 day) rfl
  have yk := bX.cell 0 (v := .int .i64 xa) rfl
  have yd := bX.cell 1 (v := .int .i64 xb) rfl
  have ym := (HV.step hB).cell 0 (v := .map (some bm)) rfl
  obtain ⟨cs, hcs9, hcs1, hcsv⟩ := hin xa xb hx1 hx2
  have hlk := hM.look (t := 151) keyedP underlying151 (hz W) (dB hx1 hx2)
  rw [hcsv] at hlk
  have HI := hI_ (And.intro hp (And.intro hsz (And.intro w0 (And.intro w1 (And.intro w2 (And.intro w3 (And.intro w4 hB)))))))
  by_cases t1 : xa = id
  ·by_cases t2 : xb ≤ day
   ·have e1 : (xa == id) = true := by simpa using t1
    have T1 := hI_ t1
    have q0 := w3.cell 0 (v := .int .i64 0) rfl
    have g0 := w4.cell 0 (v := .bool false) rfl
    have gf := w4.free 0
    have F3 := hI_ w3
    have F4 := hI_ w4
    clear hp w0 w1 w2 w3 w4 hB t1
    have hlw := bX.lt
    have hlp := World.block_lt_of_cell? W _ ym
    have hl0 := World.block_lt_of_cell? W _ y0
    have hlq := F3.out.lt
    have hlg := World.block_lt_of_cell? W _ g0
    have hlk2 : ∀ xq : World, (Instr.lookup 151 (.map (some bm)) (.agg #[.int .i64 xa, .int .i64 xb]) false).run prog (ext W xq) = .ok (.agg cs.toArray) (ext W xq) := by
     intro xq
     have BX := cA (Below.refl W.heap.size W) (Nat.le_refl _) xq
     have h2 := (hM.step BX).look (t := 151) keyedP underlying151 (hz _) (dB hx1 hx2)
     rw [hcsv] at h2
     exact h2
    clear hM hlk
    gi_wp2
    refine fW 6 (by kernel_rfl) (by kernel_rfl) (fun h => by obtain ⟨_, _, h⟩ := h; exact h) (by kernel_rfl) ?_
    iterate 6 (refine wpQuiet_step (fun K hK => ?_); go_simp; (refine hK _ ?_; clear hK K))
    refine wpQuiet_nil ?_
    intro xq
    simp only [List.drop_succ_cons, List.drop_zero]
    have BX := hI_ (cA (Below.refl W.heap.size W) (Nat.le_refl _) xq)
    have X3 := hI_ (F3.out.step BX.out)
    have X4 := hI_ (F4.out.step BX.out)
    clear F3 F4 q0 g0 gf
    go_wp2_with (refine stA rfl 162 _ _ rfl (w.heap.size + 1 + 1 + 1) (by rfl) _ cs (by rfl) 162 X3.out (infoP.trans (by rw [hcs9])) (by rw [hcs9]; rfl) hcs1 ?_; intro w5 V5 U5; have X5 := X4.out.upd U5 (by omega); have g5 := X5.cell 0 (v := .bool false) rfl; have gf5 := X5.free 0)
    gi_wp2
    obtain ⟨hp, hsz, w0, w1, w2, w3, w4, hB⟩ := HI.out
    have U6 := au w5 (w.heap.size + 1 + 1 + 1 + 1) 0 (.bool true)
    have V6 := V5.upd U6 (by omega)
    have X6 := (X4.out.upd U5 (by omega)).set 0 (.bool true)
    have kk := ((kz BX.out).trans (eo X3.out U5)).trans (eo (X4.out.upd U5 (by omega)) U6)
    have bb : Below w.heap.size w (w5.setCell ⟨w.heap.size + 1 + 1 + 1 + 1, 0, none⟩ (.bool true)) := U6.bel (U5.bel (hB.trans (BX.out.mono hB.size)) (by omega)) (by omega)
    exact ⟨kk.from _, ⟨rfl, pre, ⟨(xi, xa, xb), hx1, hx2⟩, cs, rfl, hp, ⟨T1.out, t2⟩, hcs9, hcsv, V6, X6⟩, bb⟩
   ·have e1 : (xa == id) = true := by simpa using t1
    have T1 := hI_ t1
    clear hp w0 w1 w2 w3 w4 hB t1 hM hlk
    gi_wp2
    obtain ⟨hp, hsz, w0, w1, w2, w3, w4, hB⟩ := HI.out
    exact ⟨KeepsFrom.refl _ _, Below.refl _ _, ⟨hp.snoc (fun h => by have := h.2; dsimp only at this; omega), hsz, w0, w1, w2, w3, w4⟩, hB⟩
  ·have e1 : (xa == id) = false := by simpa using t1
   clear hp w0 w1 w2 w3 w4 hB hM hlk
   gi_wp2
   obtain ⟨hp, hsz, w0, w1, w2, w3, w4, hB⟩ := HI.out
   exact ⟨KeepsFrom.refl _ _, Below.refl _ _, ⟨hp.snoc (fun h => t1 h.1), hsz, w0, w1, w2, w3, w4⟩, hB⟩
 case done =>
  rintro D ys W hD rfl ⟨⟨hp, hsz, w0, w1, w2, w3, w4⟩, hB⟩ hK
  have HK := hI_ hK
  have F3 := hI_ w3
  have F4 := hI_ w4
  have FP := hI_ hp
  have FB := hI_ hB
  clear w0 w1 w2 w3 w4 hp hB hK
  gi_wp2_with (refine xU rfl 162 _ _ rfl (w.heap.size + 1 + 1 + 1) (by rfl) _ [.int .i64 0, .int .i64 0, .int .i64 0, .int .i64 0, .int .i64 0, .int .i64 0, .int .i64 0, .int .i64 0, .slice none 0 0] (by rfl) 162 F3.out infoP rfl dX ?_; intro w5 V5 U5; have X5 := F4.out.upd U5 (by omega); have g5 := X5.cell 0 (v := .bool false) rfl; have gf5 := X5.free 0)
  have U6 := au w5 (w.heap.size + 1 + 1 + 1 + 1) 0 (.bool false)
  have V6 := V5.upd U6 (by omega)
  have X6 := (F4.out.upd U5 (by omega)).set 0 (.bool false)
  have kk := (eo F3.out U5).trans (eo (F4.out.upd U5 (by omega)) U6)
  have hK' := kk.same D _ HK.out rfl
  have bb : Below w.heap.size w (w5.setCell ⟨w.heap.size + 1 + 1 + 1 + 1, 0, none⟩ (.bool false)) := U6.bel (U5.bel FB.out (by omega)) (by omega)
  refine ⟨by simp, .inl ⟨_, _, rfl, run_takeDeferred hK', ?_⟩⟩
  have V7 := V6.kept (grownBy_putObj' _ D (.deferred none)) (fun r e => by cases e; exact ⟨_, hK', rfl⟩)
  have X7 := X6.kept (grownBy_putObj' _ D (.deferred none)) (fun r e => by cases e; exact ⟨_, hK', rfl⟩)
  have hld := run_loadVar_row (P := prog) _ (w.heap.size + 1 + 1 + 1) 162 162 _ (0, 0) _ V7.blk underlying162 rfl infoP
  have hlb := ldB X7
  refine ⟨.tuple #[.agg #[.int .i64 0, .int .i64 0, .int .i64 0, .int .i64 0, .int .i64 0, .int .i64 0, .int .i64 0, .int .i64 0, .slice none 0 0], .bool false], ?_, .inl ⟨rfl, ?_⟩, bb.trans (belowK_b (w := w) (Nat.le_refl _) _ D _ _ (by have := hs.out; omega) hK' rfl rfl)⟩
  ·simp [results, results173, asAddr, hld, hlb]
  ·intro k hk
   obtain ⟨j, hj, rfl⟩ := List.mem_iff_getElem.1 hk
   have hm : bkS ks hwf (ks.length - 1 - j) ∈ upto (bkS ks hwf) sn := by
    unfold upto
    exact List.mem_map.2 ⟨ks.length - 1 - j, List.mem_range.2 (by have := HSN.out; omega), rfl⟩
   have := FP.out _ hm
   unfold bkS bk at this
   dsimp only at this
   rw [show ks.length - 1 - (ks.length - 1 - j) = j by omega] at this
   simpa [List.getD, hj] using this
 case stop =>
  rintro D c pre W hD ⟨k, hk, rfl⟩ ⟨⟨rfl, ini, last, cs, e1, e2, e3, e4, e5, e6, e7⟩, hB⟩ hK
  gi_wp2
  refine ⟨by simp, .inl ⟨_, _, rfl, run_takeDeferred hK, ?_⟩⟩
  have V7 := e6.kept (grownBy_putObj' _ D (.deferred none)) (fun r e => by cases e; exact ⟨_, hK, rfl⟩)
  have X7 := e7.kept (grownBy_putObj' _ D (.deferred none)) (fun r e => by cases e; exact ⟨_, hK, rfl⟩)
  have hld := run_loadVar_row (P := prog) _ (w.heap.size + 1 + 1 + 1) 162 162 _ (0, 0) _ V7.blk underlying162 rfl (infoP.trans (by rw [List.size_toArray, e4]))
  have hlb := ldB X7
  obtain ⟨k', rfl⟩ : ∃ k', k = k' + 1 := by
   cases k with
   | zero => simp [upto] at e1
   | succ k' => exact ⟨k', rfl⟩
  rw [gb] at e1
  obtain ⟨rfl, e8⟩ := List.append_inj' e1 rfl
  obtain rfl : bkS ks hwf k' = last := by simpa using e8
  have hsn := HSN.out
  refine ⟨.tuple #[.agg cs.toArray, .bool true], ?_, .inr ⟨ks.length - 1 - k', cs.toArray, by omega, e3, ?_, e5, rfl⟩, hB.trans (belowK_b (w := w) (Nat.le_refl _) _ D _ _ (by have := hs.out; omega) hK rfl rfl)⟩
  ·simp [results, results173, asAddr, hld, hlb]
  ·intro i h1 h2
   have hm : bkS ks hwf (ks.length - 1 - i) ∈ upto (bkS ks hwf) k' := by
    unfold upto
    exact List.mem_map.2 ⟨ks.length - 1 - i, List.mem_range.2 (by omega), rfl⟩
   have := e2 _ hm
   unfold bkS bk at this
   dsimp only at this
   rw [show ks.length - 1 - (ks.length - 1 - i) = i by omega] at this
   exact this
end Go.Proofs.YtjkiplndbcmmbaaGreatDoor
namespace Go.Proofs.YtjkiplndbcmmbaaGreatDoor
open Tryz
open Go.RowKit Go.Shelf
def hold (vs : List PV) (id day : Int) : Option PV := vs.reverse.find? fun x => decide (fits id day (x.id, x.day))
theorem oe {vs : List PV} {id day : Int} (h : ∀ k ∈ keysOf vs, ¬ fits id day k) : hold vs id day = none := by
 unfold hold
 rw [List.find?_eq_none]
 intro x hx
 have := h (x.id, x.day) (List.mem_map.2 ⟨x, List.mem_reverse.1 hx, rfl⟩)
 simpa using this
theorem hU {vs : List PV} {j : Nat} (hj : j < vs.length) : (keysOf vs).getD j (0, 0) = (vs[j].id, vs[j].day) := by
 unfold keysOf
 simp [List.getD, hj]
theorem og {vs : List PV} {id day : Int} {j : Nat} (hj : j < vs.length) (h : fits id day (vs[j].id, vs[j].day)) (ha : ∀ i (hi : i < vs.length), j < i → ¬ fits id day (vs[i].id, vs[i].day)) : hold vs id day = some vs[j] := by
 unfold hold
 have e : vs = vs.take j ++ vs[j] :: vs.drop (j + 1) := by simp
 have : vs.reverse = (vs.drop (j + 1)).reverse ++ vs[j] :: (vs.take j).reverse := by
  conv => lhs; rw [e]
  simp
 rw [this, List.find?_append]
 have hn : (vs.drop (j + 1)).reverse.find? (fun x => decide (fits id day (x.id, x.day))) = none := by
  rw [List.find?_eq_none]
  intro x hx
  obtain ⟨i, hi, rfl⟩ := List.mem_iff_getElem.1 (List.mem_reverse.1 hx)
  simp only [List.length_drop] at hi
  simp only [List.getElem_drop, decide_eq_true_eq]
  exact ha (j + 1 + i) (by omega) (by omega)
 rw [hn]
 simp [h]
theorem Cat.kw {w : World} {p B : Nat} {S : Nat → Prop} {vs : List PV} (h : Cat w p B S vs) : KW (keysOf vs) := by
 intro k hk
 obtain ⟨x, hx, rfl⟩ := List.mem_map.1 hk
 exact ⟨(h.wf x hx).id, (h.wf x hx).day⟩
def HoldAns (w : World) (B : Nat) (S : Nat → Prop) (vs : List PV) (id day : Int) (e : Ending) : Prop :=
 (hold vs id day = none ∧ e = .returned (.tuple #[.agg (zeroV.cells (.slice none 0 0)).toArray, .bool false])) ∨
 ∃ x tv, x ∈ vs ∧ hold vs id day = some x ∧ e = .returned (.tuple #[.agg (x.cells tv).toArray, .bool true]) ∧ OwnT w B tv x.ts ∧ ∀ k, tv.ownBlock = some k → S k
theorem gm {p B : Nat} {S : Nat → Prop} {vs : List PV} (id day : Int) (w : World) (h : Cat w p B S vs) :
  Calls prog 173 #[.pointer (some ⟨p, 0, none⟩), .int .i64 id, .int .i64 day] w fun e w' => HoldAns w B S vs id day e ∧ Below w.heap.size w w' := by
 have hkw := h.kw
 obtain ⟨h1, h2, h3, bm, sv, n, f, a1, a2, a3, a4, a5, a6, a7, a8⟩ := h
 obtain ⟨sa, sn, cap, rfl⟩ := a6.form
 obtain ⟨k1, k2, k3⟩ := a6.at
 have hlen : (keysOf vs).length = vs.length := by simp [keysOf]
 have hin : ∀ a b, I64 a → I64 b → ∃ cs : List Value, cs.length = 9 ∧ (∀ v ∈ cs, v.oneCell' = true) ∧ (f (kl a b)).getD (.agg #[.int .i64 0, .int .i64 0, .int .i64 0, .int .i64 0, .int .i64 0, .int .i64 0, .int .i64 0, .int .i64 0, .slice none 0 0]) = .agg cs.toArray := by
  intro a b ha hb
  by_cases hx : ∃ x ∈ vs, x.id = a ∧ x.day = b
  ·obtain ⟨x, hx, rfl, rfl⟩ := hx
   obtain ⟨tv, e1, e2, _⟩ := a7 x hx
   exact ⟨x.cells tv, rfl, bD x e2.form, by rw [e1]; rfl⟩
  ·rw [a8 a b ha hb (fun x hx' e => hx ⟨x, hx', e⟩)]
   exact ⟨[.int .i64 0, .int .i64 0, .int .i64 0, .int .i64 0, .int .i64 0, .int .i64 0, .int .i64 0, .int .i64 0, .slice none 0 0], rfl, dX, rfl⟩
 refine callsIn_wide.1 ((m9 3 (by omega) p bm sn cap n sa f id day (keysOf vs) w a1 a4 k1 (by omega) k2 k3 hkw hin).mono ?_)
 rintro e w' ⟨h, hb⟩
 refine ⟨?_, hb⟩
 rcases h with ⟨rfl, hn⟩ | ⟨j, cs, hj, hf, hl, hv, rfl⟩
 ·exact Or.inl ⟨oe hn, rfl⟩
 ·rw [hlen] at hj
  rw [hU hj] at hf hv
  obtain ⟨tv, e1, e2, e3⟩ := a7 vs[j] (List.getElem_mem hj)
  have : (some (Value.agg (vs[j].cells tv).toArray)).getD (.agg #[.int .i64 0, .int .i64 0, .int .i64 0, .int .i64 0, .int .i64 0, .int .i64 0, .int .i64 0, .int .i64 0, .slice none 0 0]) = .agg cs := by rw [← e1]; exact hv
  injection this with this
  exact Or.inr ⟨vs[j], tv, List.getElem_mem hj, og hj hf (fun i hi hji => by have := hl i hji (by rw [hlen]; exact hi); rwa [hU hi] at this), by rw [← this], e2, e3⟩
theorem gv {x : PV} (h : chk x = 0) : x.ts.length ≤ 8 := by
 unfold chk at h
 split at h
 ·unfold terr at h
  split at h
  ·cases h
  ·omega
 ·cases h
def AtAns (w' : World) (B' : Nat) (vs : List PV) (id day : Int) (e : Ending) : Prop :=
 (wi day 1 3652059 = false ∧ e = .returned (.tuple #[.agg (zeroV.cells (.slice none 0 0)).toArray, .int .i64 1])) ∨
 (wi day 1 3652059 = true ∧ hold vs id day = none ∧ e = .returned (.tuple #[.agg (zeroV.cells (.slice none 0 0)).toArray, .int .i64 7])) ∨
 (wi day 1 3652059 = true ∧ ∃ x v, x ∈ vs ∧ hold vs id day = some x ∧ e = .returned (.tuple #[.agg (x.cells v).toArray, .int .i64 0]) ∧ OwnT w' B' v x.ts)
theorem pA {p B : Nat} {S : Nat → Prop} {vs : List PV} (id day : Int) (w : World) (h : Cat w p B S vs) : Calls prog 138 #[.pointer (some ⟨p, 0, none⟩), .int .i64 id, .int .i64 day] w fun e w' => AtAns w' w.heap.size vs id day e ∧ Below w.heap.size w w' := by
 have HU := hI_ (aa w [.int .i64 0, .int .i64 0, .int .i64 0, .int .i64 0, .int .i64 0, .int .i64 0, .int .i64 0, .int .i64 0, .slice none 0 0] 162)
 have HD := hI_ ((Below.refl w.heap.size w).alloc (Nat.le_refl _) (.cells #[.int .i64 0, .int .i64 0, .int .i64 0, .int .i64 0, .int .i64 0, .int .i64 0, .int .i64 0, .int .i64 0, .slice none 0 0] 162))
 have HC := hI_ (h.step HD.out)
 have HF := hI_ h.fine
 have lw : w.heap.size < (w.alloc (.cells #[.int .i64 0, .int .i64 0, .int .i64 0, .int .i64 0, .int .i64 0, .int .i64 0, .int .i64 0, .int .i64 0, .slice none 0 0] 162)).heap.size := by simp
 clear h
 cases hd : wi day 1 3652059
 ·go_enter func138, ntmps138
  go_wp2_with (first
   | (go_at_call 174; refine (ck day _).mono ?_; rintro e w1 ⟨rfl, rfl⟩; rw [hd])
   | (refine stA rfl 162 _ _ rfl w.heap.size (by rfl) _ [.int .i64 0, .int .i64 0, .int .i64 0, .int .i64 0, .int .i64 0, .int .i64 0, .int .i64 0, .int .i64 0, .slice none 0 0] (by rfl) 162 HU.out infoP rfl dX ?_; intro w5 V5 U5))
  refine bodyPost_ret (v := .tuple #[.agg #[.int .i64 0, .int .i64 0, .int .i64 0, .int .i64 0, .int .i64 0, .int .i64 0, .int .i64 0, .int .i64 0, .slice none 0 0], .int .i64 1]) ?_ rfl ⟨Or.inl ⟨hd, rfl⟩, U5.bel HD.out (Nat.le_refl _)⟩
  have hld := run_loadVar_row (P := prog) w5 w.heap.size 162 162 _ (0, 0) _ V5.blk underlying162 rfl infoP
  simp [results, results138, asAddr, hld]
 ·go_enter func138, ntmps138
  go_wp2_with (first
   | (go_at_call 174; refine (ck day _).mono ?_; rintro e w1 ⟨rfl, rfl⟩; rw [hd])
   | (refine stA rfl 162 _ _ rfl w.heap.size (by rfl) _ [.int .i64 0, .int .i64 0, .int .i64 0, .int .i64 0, .int .i64 0, .int .i64 0, .int .i64 0, .int .i64 0, .slice none 0 0] (by rfl) 162 HU.out infoP rfl dX ?_; intro w5 V5 U5))
  generalize w.alloc (.cells #[.int .i64 0, .int .i64 0, .int .i64 0, .int .i64 0, .int .i64 0, .int .i64 0, .int .i64 0, .int .i64 0, .slice none 0 0] 162) = w1 at *
  refine (gm id day w1 HC.out).mono ?_
  rintro e w2 ⟨ha, b2⟩
  have U2 := hI_ (HU.out.step b2)
  have D2 := hI_ (HD.out.trans (b2.mono HD.out.size))
  have l2 := b2.size
  rcases ha with ⟨hn, rfl⟩ | ⟨x, tv, hm, hx, rfl, o2, hS⟩
  ·have U3 := hI_ (U2.out.alloc (.cells #[.int .i64 0, .int .i64 0, .int .i64 0, .int .i64 0, .int .i64 0, .int .i64 0, .int .i64 0, .int .i64 0, .slice none 0 0] 162))
   have D3 := hI_ (D2.out.alloc D2.out.size (.cells #[.int .i64 0, .int .i64 0, .int .i64 0, .int .i64 0, .int .i64 0, .int .i64 0, .int .i64 0, .int .i64 0, .slice none 0 0] 162))
   clear b2
   go_wp2_with (first
    | (refine stA rfl 162 _ _ rfl w2.heap.size (by rfl) _ [.int .i64 0, .int .i64 0, .int .i64 0, .int .i64 0, .int .i64 0, .int .i64 0, .int .i64 0, .int .i64 0, .slice none 0 0] (by rfl) 162 (aa w2 [.int .i64 0, .int .i64 0, .int .i64 0, .int .i64 0, .int .i64 0, .int .i64 0, .int .i64 0, .int .i64 0, .slice none 0 0] 162) infoP rfl dX ?_; intro w4 V4 U4; have U5' := hI_ (U3.out.upd U4 (by omega)))
    | (refine stA rfl 162 _ _ rfl w.heap.size (by rfl) _ [.int .i64 0, .int .i64 0, .int .i64 0, .int .i64 0, .int .i64 0, .int .i64 0, .int .i64 0, .int .i64 0, .slice none 0 0] (by rfl) 162 U5'.out infoP rfl dX ?_; intro w5 V5 U5))
   refine bodyPost_ret (v := .tuple #[.agg #[.int .i64 0, .int .i64 0, .int .i64 0, .int .i64 0, .int .i64 0, .int .i64 0, .int .i64 0, .int .i64 0, .slice none 0 0], .int .i64 7]) ?_ rfl ⟨Or.inr (Or.inl ⟨hd, hn, rfl⟩), U5.bel (U4.bel D3.out (by omega)) (Nat.le_refl _)⟩
   have hld := run_loadVar_row (P := prog) w5 w.heap.size 162 162 _ (0, 0) _ V5.blk underlying162 rfl infoP
   simp [results, results138, asAddr, hld]
  ·obtain ⟨ta, tn, tc, rfl⟩ := o2.form
   have BZ := (Below.refl w2.heap.size w2).alloc (Nat.le_refl _) (.cells #[.int .i64 0, .int .i64 0, .int .i64 0, .int .i64 0, .int .i64 0, .int .i64 0, .int .i64 0, .int .i64 0, .slice none 0 0] 162)
   have U3 := hI_ (U2.out.alloc (.cells #[.int .i64 0, .int .i64 0, .int .i64 0, .int .i64 0, .int .i64 0, .int .i64 0, .int .i64 0, .int .i64 0, .slice none 0 0] 162))
   have D3 := hI_ (D2.out.alloc D2.out.size (.cells #[.int .i64 0, .int .i64 0, .int .i64 0, .int .i64 0, .int .i64 0, .int .i64 0, .int .i64 0, .int .i64 0, .slice none 0 0] 162))
   have HBZ := hI_ BZ
   have hO := hI_ (o2.step b2)
   have HX := hI_ hx
   have HM := hI_ hm
   clear b2 o2 hS hx hm BZ
   go_wp2_with (first
    | (refine stA rfl 162 _ _ rfl w2.heap.size (by rfl) _ (x.cells (.slice ta tn tc)) (by rfl) 162 (aa w2 [.int .i64 0, .int .i64 0, .int .i64 0, .int .i64 0, .int .i64 0, .int .i64 0, .int .i64 0, .int .i64 0, .slice none 0 0] 162) infoP rfl (bD x ⟨_, _, _, rfl⟩) ?_; intro w4 V4 U4; have HV4 := hI_ (V4); have HU4 := (show Hid _ from U4); clear V4 U4)
    | (refine ldA rfl 162 _ rfl w2.heap.size (by rfl) (x.cells (.slice ta tn tc)) _ HV4.out _ underlying162 rfl infoP ?_))
   have B4 : Below w2.heap.size w2 w4 := HU4.out.bel HBZ.out (Nat.le_refl _)
   have O4 := hO.out.step B4
   refine (ed x _ w4 O4.tr O4.nilcap (by have := gv (HF.out x HM.out); omega)).mono ?_
   rintro e w5 ⟨⟨v5, rfl, o5⟩, b5⟩
   obtain ⟨a5, n5, c5, rfl⟩ := o5.form
   have X5 := hI_ ((U2.out.step B4).step b5)
   have D5 := hI_ ((D2.out.trans (B4.mono D2.out.size)).trans (b5.mono (Nat.le_trans D2.out.size B4.size)))
   have O5 := hI_ o5
   have l4 := B4.size
   have l5 := b5.size
   clear B4 O4 b5 o5
   go_wp2_with (refine stA rfl 162 _ _ rfl w.heap.size (by rfl) _ (x.cells (.slice a5 n5 c5)) (by rfl) 162 X5.out infoP rfl (bD x ⟨_, _, _, rfl⟩) ?_; intro w6 V6 U6)
   refine bodyPost_ret (v := .tuple #[.agg (x.cells (.slice a5 n5 c5)).toArray, .int .i64 0]) ?_ rfl ⟨Or.inr (Or.inr ⟨hd, x, .slice a5 n5 c5, HM.out, HX.out, rfl, (O5.out.upd U6 (by omega)).lower (by omega)⟩), U6.bel D5.out (Nat.le_refl _)⟩
   have hld := run_loadVar_row (P := prog) w6 w.heap.size 162 162 _ (0, 0) _ V6.blk underlying162 rfl infoP
   simp [results, results138, asAddr, hld]
theorem stO {w : World} {y : Nat → Option Bool} {o : Oper} {a : Act} {Q : Exit → Act → World → Prop} {K : Act → World → Prop} {k0 : Prop} (hgd : Region.wanted o y = true) (t : TypeId) (x z : Operand) (ho : o.op = .store t x z)
  (p : Nat) (hx : a.eval x = .pointer (some ⟨p, 0, none⟩)) (cs ds : List Value) (hy : a.eval z = .agg ds.toArray) (T : TypeId) (h : VA w p cs T) (hi : (prog.info? t).map (·.size) = some ds.length) (hl : cs.length = ds.length) (h1 : ∀ v ∈ ds, v.oneCell' = true)
  (k : ∀ w', VA w' p ds T → Upd p w w' → K (a.put o.dst undef) w') : if Region.wanted o y then o.wp prog a w K Q else k0 := by
 rw [if_pos hgd]
 have hrun := run_storeVar_row (P := prog) w p T t cs.toArray ds.toArray h.blk (by simpa using hi) (by simpa using hl) (Array.all_eq_true_iff_forall_mem.2 (fun v hv => h1 v (by simpa using hv)))
 unfold Oper.wp execOp
 simp only [ho, hx, hy, Instr.storeAt, Instr.sureAddr, Sem.run_bind, Sem.run_pure, Result.andThen_ok, hrun]
 exact k _ ⟨setRow_heap w p _ _ _ _ h.blk⟩ (cK w p _)
def there (vs : List PV) (id day : Int) : Bool := vs.any fun x => decide (x.id = id ∧ x.day = day)
def fol (vs : List PV) (x : PV) : Int :=
 if there vs x.id x.day then 8 else match hold vs x.id 3652059 with
  | none => 0
  | some l => if x.day < l.day then 9 else if l.kind ≠ x.kind ∨ l.cur ≠ x.cur then 11 else 0
theorem uR (w : World) : (zeroValue 162).run prog w = .ok (.agg #[.int .i64 0, .int .i64 0, .int .i64 0, .int .i64 0, .int .i64 0, .int .i64 0, .int .i64 0, .int .i64 0, .slice none 0 0]) w := by kernel_rfl
theorem fb {p B : Nat} {S : Nat → Prop} {vs : List PV} (x : PV) (tv : Value) (w : World) (h : Cat w p B S vs) (hx : x.wf) :
  Calls prog 136 #[.pointer (some ⟨p, 0, none⟩), .agg (x.cells tv).toArray] w fun e w' => e = .returned (.int .i64 (fol vs x)) ∧ Below w.heap.size w w' := by
 have V := aa w (x.cells tv) 162
 have HD := hI_ ((Below.refl w.heap.size w).alloc (Nat.le_refl _) (.cells (x.cells tv).toArray 162))
 have HC := hI_ (h.step HD.out)
 have hthere : ∀ f : Lit → Option Value, (∀ x ∈ vs, ∃ tv, f (kl x.id x.day) = some (.agg (x.cells tv).toArray) ∧ OwnT (w.alloc (.cells (x.cells tv).toArray 162)) B tv x.ts ∧ ∀ k, tv.ownBlock = some k → S k) → True := fun _ _ => trivial
 clear hthere
 obtain ⟨bm, sv, n, f, a1, a4, HTH, HFG⟩ : ∃ bm sv n f, VA (w.alloc (.cells (x.cells tv).toArray 162)) p [.map (some bm), sv] 154 ∧ MapF (w.alloc (.cells (x.cells tv).toArray 162)) 208 bm n f ∧ Hid ((f (kl x.id x.day)).isSome = there vs x.id x.day) ∧ Hid (∃ cs : List Value, cs.length = 9 ∧ (∀ v ∈ cs, v.oneCell' = true) ∧ (f (kl x.id x.day)).getD (.agg #[.int .i64 0, .int .i64 0, .int .i64 0, .int .i64 0, .int .i64 0, .int .i64 0, .int .i64 0, .int .i64 0, .slice none 0 0]) = .agg cs.toArray) := by
  obtain ⟨h1, h2, h3, bm, sv, n, f, a1, a2, a3, a4, a5, a6, a7, a8⟩ := HC.out
  refine ⟨bm, sv, n, f, a1, a4, ?_, ?_⟩
  ·show (f (kl x.id x.day)).isSome = _
   by_cases hy : ∃ y ∈ vs, y.id = x.id ∧ y.day = x.day
   ·have ht : there vs x.id x.day = true := by
     unfold there
     rw [List.any_eq_true]
     obtain ⟨y, hy, e⟩ := hy
     exact ⟨y, hy, by simpa using e⟩
    obtain ⟨y, hy, e1, e2⟩ := hy
    obtain ⟨tv, e3, _⟩ := a7 y hy
    rw [← e1, ← e2, e3, e1, e2, ht]
    rfl
   ·have ht : there vs x.id x.day = false := by
     unfold there
     rw [List.any_eq_false]
     intro y hy' e
     exact hy ⟨y, hy', by simpa using e⟩
    rw [ht, a8 _ _ hx.id hx.day (fun y hy' e => hy ⟨y, hy', e⟩)]
    rfl
  ·by_cases hy : ∃ y ∈ vs, y.id = x.id ∧ y.day = x.day
   ·obtain ⟨y, hy, e1, e2⟩ := hy
    obtain ⟨tv, e3, e4, _⟩ := a7 y hy
    exact ⟨y.cells tv, rfl, bD y e4.form, by rw [← e1, ← e2, e3]; rfl⟩
   ·exact ⟨[.int .i64 0, .int .i64 0, .int .i64 0, .int .i64 0, .int .i64 0, .int .i64 0, .int .i64 0, .int .i64 0, .slice none 0 0], rfl, dX, by rw [a8 _ _ hx.id hx.day (fun y hy' e => hy ⟨y, hy', e⟩)]; rfl⟩
 have ym := a1.cell 0 (v := .map (some bm)) rfl
 have y0 := V.cell 0 (v := .int .i64 x.id) rfl
 have y1 := V.cell 1 (v := .int .i64 x.kind) rfl
 have y2 := V.cell 2 (v := .int .i64 x.cur) rfl
 have y3 := V.cell 3 (v := .int .i64 x.day) rfl
 obtain ⟨cs, cs9, cs1, csv⟩ := HFG.out
 have HLK : Hid (∀ wq, Below (w.alloc (.cells (x.cells tv).toArray 162)).heap.size (w.alloc (.cells (x.cells tv).toArray 162)) wq → (Instr.lookup 151 (.map (some bm)) (.agg #[.int .i64 x.id, .int .i64 x.day]) true).run prog wq = .ok (.tuple #[.agg cs.toArray, .bool (there vs x.id x.day)]) wq) := fun wq hS => by
  have := (a4.step hS).look_ok (t := 151) keyedP underlying151 (uR wq) (dB hx.id hx.day)
  rw [csv, HTH.out] at this
  exact this
 clear HTH HFG csv
 have HVV := hI_ V
 clear a1 a4 V h
 go_enter func136, ntmps136
 go_upto_region 1 with fail
 generalize w.alloc (.cells (x.cells tv).toArray 162) = w1 at *
 refine wp_region_noPanic ?_
 refine wp_region_held_drew (S := fun w' => Below w1.heap.size w1 w') (by kernel_rfl) ((Below.refl _ _).drew) (fun hh_ => ?_)
 refine wpAnyH_take (i := 0) (v := .pointer (some ⟨p, 0, none⟩)) (by exact rfl) (by kernel_rfl) (by kernel_rfl) (by kernel_rfl) (fun _ _ _ h => h) (Or.inl ⟨by rfl, ?_⟩) (by assumption) ?_
 ·intro wq hS
  go_simp
 refine wpAnyH_take (i := 1) (v := .pointer (some ⟨p, 0, none⟩)) (by exact rfl) (by kernel_rfl) (by kernel_rfl) (by kernel_rfl) (fun _ _ _ h => h) (Or.inl ⟨by rfl, ?_⟩) (by assumption) ?_
 ·intro wq hS
  go_simp
 refine wpAnyH_take (i := 2) (v := .pointer (some ⟨p, 0, none⟩)) (by exact rfl) (by kernel_rfl) (by kernel_rfl) (by kernel_rfl) (fun _ _ _ h => h) (Or.inl ⟨by rfl, ?_⟩) (by assumption) ?_
 ·intro wq hS
  go_simp
 refine wpAnyH_take (i := 3) (v := .map (some bm)) (by exact rfl) (by kernel_rfl) (by kernel_rfl) (by kernel_rfl) (fun _ _ _ h => h) (Or.inl ⟨by rfl, ?_⟩) (by assumption) ?_
 ·intro wq hS
  have c := (hS.cell (p := ⟨p, 0, none⟩) (World.block_lt_of_cell? _ _ ym)).trans ym
  go_simp
 refine wpAnyH_take (i := 4) (v := .pointer (some ⟨w.heap.size, 0, none⟩)) (by exact rfl) (by kernel_rfl) (by kernel_rfl) (by kernel_rfl) (fun _ _ _ h => h) (Or.inl ⟨by rfl, ?_⟩) (by assumption) ?_
 ·intro wq hS
  go_simp
 refine wpAnyH_take (i := 5) (v := .int .i64 x.id) (by exact rfl) (by kernel_rfl) (by kernel_rfl) (by kernel_rfl) (fun _ _ _ h => h) (Or.inl ⟨by rfl, ?_⟩) (by assumption) ?_
 ·intro wq hS
  have c := (hS.cell (p := ⟨w.heap.size, 0, none⟩) (World.block_lt_of_cell? _ _ y0)).trans y0
  go_simp
 refine wpAnyH_take (i := 6) (v := .pointer (some ⟨w.heap.size, 3, none⟩)) (by exact rfl) (by kernel_rfl) (by kernel_rfl) (by kernel_rfl) (fun _ _ _ h => h) (Or.inl ⟨by rfl, ?_⟩) (by assumption) ?_
 ·intro wq hS
  go_simp
 refine wpAnyH_take (i := 7) (v := .int .i64 x.day) (by exact rfl) (by kernel_rfl) (by kernel_rfl) (by kernel_rfl) (fun _ _ _ h => h) (Or.inl ⟨by rfl, ?_⟩) (by assumption) ?_
 ·intro wq hS
  have c := (hS.cell (p := ⟨w.heap.size, 3, none⟩) (World.block_lt_of_cell? _ _ y3)).trans y3
  go_simp
 refine wpAnyH_take (i := 8) (v := .agg #[.int .i64 x.id, .int .i64 x.day]) (by exact rfl) (by kernel_rfl) (by kernel_rfl) (by kernel_rfl) (fun _ _ _ h => h) (Or.inl ⟨by rfl, ?_⟩) (by assumption) ?_
 ·intro wq hS
  go_simp
 refine wpAnyH_take (i := 9) (v := .tuple #[.agg cs.toArray, .bool (there vs x.id x.day)]) (by exact rfl) (by kernel_rfl) (by kernel_rfl) (by kernel_rfl) (fun _ _ _ h => h) (Or.inl ⟨by rfl, ?_⟩) (by assumption) ?_
 ·intro wq hS
  have hl := HLK.out wq hS
  go_simp
 refine wpAnyH_take (i := 10) (v := .tuple #[.agg cs.toArray, .bool (there vs x.id x.day)]) (by exact rfl) (by kernel_rfl) (by kernel_rfl) (by kernel_rfl) (fun _ _ _ h => h) (Or.inl ⟨by rfl, ?_⟩) (by assumption) ?_
 ·intro wq hS
  go_simp
 refine wpAnyH_take (i := 11) (v := .agg cs.toArray) (by exact rfl) (by kernel_rfl) (by kernel_rfl) (by kernel_rfl) (fun _ _ _ h => h) (Or.inl ⟨by rfl, ?_⟩) (by assumption) ?_
 ·intro wq hS
  go_simp
 refine wpAnyH_take (i := 12) (v := .bool (there vs x.id x.day)) (by exact rfl) (by kernel_rfl) (by kernel_rfl) (by kernel_rfl) (fun _ _ _ h => h) (Or.inl ⟨by rfl, ?_⟩) (by assumption) ?_
 ·intro wq hS
  go_simp
 refine rdy 13 (fun K hK => ?_)
 go_simp
 have l1 := HVV.out.lt
 have BA := ((Below.refl w1.heap.size w1).drew).alloc (Nat.le_refl _) (.cells #[.int .i64 0, .int .i64 0, .int .i64 0, .int .i64 0, .int .i64 0, .int .i64 0, .int .i64 0, .int .i64 0, .slice none 0 0] 162)
 refine hK.out _ _ BA (fun hh_ => ?_)
 clear hK K
 refine rdy 14 (fun K hK => ?_)
 refine stO (by rfl) 162 _ _ (by rfl) w1.heap.size (by rfl) _ cs (by rfl) 162 (aa w1.drew [.int .i64 0, .int .i64 0, .int .i64 0, .int .i64 0, .int .i64 0, .int .i64 0, .int .i64 0, .int .i64 0, .slice none 0 0] 162) (infoP.trans (by rw [cs9])) (by rw [cs9]; rfl) cs1 ?_
 intro w2 V2 U2
 have B2 : Below w1.heap.size w1 w2 := U2.bel BA (Nat.le_refl _)
 refine hK.out _ _ B2 (fun hh_ => ?_)
 clear hK K
 refine rdy 15 (fun K hK => ?_)
 go_simp
 refine hK.out _ _ B2 (fun hh_ => ?_)
 clear hK K
 refine dN ?_
 have D2 := hI_ (HD.out.trans (B2.mono HD.out.size))
 have C2 := hI_ (HC.out.step B2)
 have VV2 := hI_ (HVV.out.step B2)
 have z0 := VV2.out.cell 0 (v := .int .i64 x.id) rfl
 have z1 := VV2.out.cell 1 (v := .int .i64 x.kind) rfl
 have z2 := VV2.out.cell 2 (v := .int .i64 x.cur) rfl
 have z3 := VV2.out.cell 3 (v := .int .i64 x.day) rfl
 clear y0 y1 y2 y3 ym HLK V2 U2 BA B2 HC HVV
 cases hth : there vs x.id x.day
 ·go_wp2_with fail
  refine (gm x.id 3652059 w2 C2.out).mono ?_
  rintro e w3 ⟨ha, b3⟩
  have V3 := VV2.out.step b3
  have D3 := hI_ (D2.out.trans (b3.mono D2.out.size))
  have hl3 := b3.size
  have hv2 := VV2.out.lt
  rcases ha with ⟨hn, rfl⟩ | ⟨l, lv, hm, hl, rfl, o3, hS⟩
  ·clear z0 z1 z2 z3 V3
   have HF : Hid (fol vs x = 0) := by show fol vs x = 0; unfold fol; rw [hth, hn]; rfl
   go_wp2_with (refine stA rfl 162 _ _ rfl w3.heap.size (by rfl) _ [.int .i64 0, .int .i64 0, .int .i64 0, .int .i64 0, .int .i64 0, .int .i64 0, .int .i64 0, .int .i64 0, .slice none 0 0] (by rfl) 162 (aa w3 [.int .i64 0, .int .i64 0, .int .i64 0, .int .i64 0, .int .i64 0, .int .i64 0, .int .i64 0, .int .i64 0, .slice none 0 0] 162) infoP rfl dX ?_; intro w4 V4 U4)
   go_ret
   exact ⟨by rw [HF.out]; rfl, U4.bel (D3.out.alloc D3.out.size _) D3.out.size⟩
  ·obtain ⟨la, ln, lc, rfl⟩ := o3.form
   have HL := hI_ hl
   have V4' := hI_ (V3.alloc (.cells #[.int .i64 0, .int .i64 0, .int .i64 0, .int .i64 0, .int .i64 0, .int .i64 0, .int .i64 0, .int .i64 0, .slice none 0 0] 162))
   clear z0 z1 z2 z3 hl o3 hS hm V3 b3
   go_upto_region 5 with (refine stA rfl 162 _ _ rfl w3.heap.size (by rfl) _ (l.cells (.slice la ln lc)) (by rfl) 162 (aa w3 [.int .i64 0, .int .i64 0, .int .i64 0, .int .i64 0, .int .i64 0, .int .i64 0, .int .i64 0, .int .i64 0, .slice none 0 0] 162) infoP rfl (bD l ⟨_, _, _, rfl⟩) ?_; intro w4 V4 U4)
   have X4 := V4'.out.upd U4 (by omega)
   have D4 := hI_ (U4.bel (D3.out.alloc D3.out.size (.cells #[.int .i64 0, .int .i64 0, .int .i64 0, .int .i64 0, .int .i64 0, .int .i64 0, .int .i64 0, .int .i64 0, .slice none 0 0] 162)) D3.out.size)
   have z1 := X4.cell 1 (v := .int .i64 x.kind) rfl
   have z2 := X4.cell 2 (v := .int .i64 x.cur) rfl
   have z3 := X4.cell 3 (v := .int .i64 x.day) rfl
   have l1' := V4.cell 1 (v := .int .i64 l.kind) rfl
   have l2' := V4.cell 2 (v := .int .i64 l.cur) rfl
   have l3' := V4.cell 3 (v := .int .i64 l.day) rfl
   have HF : Hid (fol vs x = if x.day < l.day then 9 else if l.kind ≠ x.kind ∨ l.cur ≠ x.cur then 11 else 0) := by show fol vs x = _; unfold fol; rw [hth, HL.out]; rfl
   clear X4 V4 U4
   by_cases t1 : x.day < l.day
   ·go_wp2_with fail
    go_ret
    exact ⟨by rw [HF.out, if_pos t1]; rfl, D4.out⟩
   ·have t1' : ¬ x.day < l.day := t1
    have T1 : Hid (x.day < l.day → False) := t1'
    by_cases t2 : l.kind = x.kind
    ·have e2 : (l.kind != x.kind) = false := by simpa using t2
     have T2 := hI_ t2
     clear t2
     by_cases t3 : l.cur = x.cur
     ·have e3 : (l.cur != x.cur) = false := by simpa using t3
      have T3 := hI_ t3
      clear t3
      go_wp2_with fail
      go_ret
      exact ⟨by rw [HF.out, if_neg T1.out, if_neg (fun h => h.elim (fun h => h T2.out) (fun h => h T3.out))]; rfl, D4.out⟩
     ·have e3 : (l.cur != x.cur) = true := by simpa using t3
      go_wp2_with fail
      go_ret
      exact ⟨by rw [HF.out, if_neg T1.out, if_pos (Or.inr t3)]; rfl, D4.out⟩
    ·have e2 : (l.kind != x.kind) = true := by simpa using t2
     go_wp2_with fail
     go_ret
     exact ⟨by rw [HF.out, if_neg T1.out, if_pos (Or.inl t2)]; rfl, D4.out⟩
 ·go_wp2_with fail
  go_ret
  exact ⟨by unfold fol; rw [hth]; rfl, D2.out⟩
def addE (vs : List PV) (x : PV) : Int := if chk x ≠ 0 then chk x else if fol vs x ≠ 0 then fol vs x else if 64 ≤ vs.length then 17 else 0
theorem nU (x : PV) : 0 ≤ chk x ∧ chk x ≤ 3 := by
 unfold chk terr
 split
 ·split
  ·omega
  ·split
   ·omega
   ·split <;> omega
 ·omega
theorem oa (vs : List PV) (x : PV) : 0 ≤ fol vs x ∧ fol vs x ≤ 11 := by
 unfold fol
 split
 ·omega
 ·split
  ·omega
  ·split
   ·omega
   ·split <;> omega
theorem Cat.order {w : World} {p B : Nat} {S : Nat → Prop} {vs : List PV} (h : Cat w p B S vs) : ∃ bm sa cap, VA w p [.map (some bm), .slice sa vs.length cap] 154 ∧ vs.length ≤ cap ∧ cap ≤ 9223372036854775807 := by
 obtain ⟨h1, h2, h3, bm, sv, n, f, a1, a2, a3, a4, a5, a6, a7, a8⟩ := h
 obtain ⟨_, a, c, e, h1, h2, _⟩ := a6.tr
 subst e
 have : (keysOf vs).length = vs.length := by simp [keysOf]
 rw [this] at a1 h1
 exact ⟨bm, a, c, a1, h1, h2⟩
theorem uU {p B : Nat} {S : Nat → Prop} {vs : List PV} (x : PV) (tv : Value) (w : World) (hC : Cat w p B S vs) (hx : x.wf) (h : Tr w tv x.ts) (hno : addE vs x ≠ 0) :
  Calls prog 83 #[.pointer (some ⟨p, 0, none⟩), .agg (x.cells tv).toArray] w fun e w' => e = .returned (.int .i64 (addE vs x)) ∧ Below w.heap.size w w' := by
 have HV := hI_ (aa w (x.cells tv) 162)
 have HD := hI_ ((Below.refl w.heap.size w).alloc (Nat.le_refl _) (.cells (x.cells tv).toArray 162))
 have HT := hI_ (h.step HD.out)
 have HC := hI_ (hC.step HD.out)
 have hr := nU x
 have hf := oa vs x
 have HA : Hid (addE vs x = if chk x ≠ 0 then chk x else if fol vs x ≠ 0 then fol vs x else if 64 ≤ vs.length then 17 else 0) := rfl
 have HNO := hI_ hno
 clear h hno hC
 by_cases hc : chk x = 0
 ·have HCK := hI_ hc
  go_enter func83, ntmps83
  go_wp2_with (refine ldA rfl 162 _ rfl w.heap.size (by rfl) _ _ HV.out _ underlying162 rfl infoP ?_)
  refine (cN x tv _ HT.out).mono ?_
  rintro e w1 ⟨rfl, b1⟩
  rw [hc]
  have V1 := hI_ (HV.out.step b1)
  have C1 := hI_ (HC.out.step b1)
  have D1 := hI_ (HD.out.trans (b1.mono HD.out.size))
  clear b1 HV HC HD hc
  go_wp2_with (refine ldA rfl 162 _ rfl w.heap.size (by rfl) _ _ V1.out _ underlying162 rfl infoP ?_)
  refine (fb x tv _ C1.out hx).mono ?_
  rintro e w2 ⟨rfl, b2⟩
  have D2 := hI_ (D1.out.trans (b2.mono D1.out.size))
  have C2 := hI_ (C1.out.step b2)
  clear b2 V1 C1 D1
  by_cases hq : fol vs x = 0
  ·have h64 : 64 ≤ vs.length := by
    have h1 := HA.out
    rw [if_neg (by have := HCK.out; omega), if_neg (by omega)] at h1
    by_cases h64 : 64 ≤ vs.length
    ·exact h64
    ·rw [if_neg h64] at h1
     exact absurd h1 HNO.out
   have HE : Hid (addE vs x = 17) := by
    show addE vs x = 17
    rw [HA.out, if_neg (by have := HCK.out; omega), if_neg (by omega), if_pos h64]
   obtain ⟨bm, sa, cap, a1, a2, a3⟩ := C2.out.order
   have c1 := a1.cell 1 (v := .slice sa vs.length cap) rfl
   rw [hq]
   generalize vs.length = n at *
   have d1 : (64 : Int) ≤ (n : Int) := by omega
   clear a1 hq
   go_wp2_with fail
   go_ret
   exact ⟨by rw [HE.out]; rfl, D2.out⟩
  ·have e1 : (fol vs x != 0) = true := by simpa using hq
   have HE : Hid (addE vs x = fol vs x) := by
    show addE vs x = _
    rw [HA.out, if_neg (by have := HCK.out; omega), if_pos hq]
   go_wp2_with fail
   go_ret
   exact ⟨by rw [HE.out]; rfl, D2.out⟩
 ·have HE : Hid (addE vs x = chk x) := by
   show addE vs x = _
   rw [HA.out, if_pos hc]
  go_enter func83, ntmps83
  go_wp2_with (refine ldA rfl 162 _ rfl w.heap.size (by rfl) _ _ HV.out _ underlying162 rfl infoP ?_)
  refine (cN x tv _ HT.out).mono ?_
  rintro e w1 ⟨rfl, b1⟩
  have e1 : (chk x != 0) = true := by simpa using hc
  go_wp2_with fail
  go_ret
  exact ⟨by rw [HE.out]; rfl, HD.out.trans (b1.mono HD.out.size)⟩
end Go.Proofs.YtjkiplndbcmmbaaGreatDoor
namespace Go.Proofs.YtjkiplndbcmmbaaGreatDoor
open Tryz
open Go.RowKit Go.Shelf Go.Maps
theorem xX {w : World} {y : Nat → Option Bool} {o : Oper} {a : Act} {Q : Exit → Act → World → Prop} {K' : Act → World → Prop} {k0 : Prop} (hgd : Region.wanted o y = true) (m x v : Operand) (t : TypeId) (hop : o.op = Op.mapUpdate t m x v)
  (k e : TypeId) (K : Keyed prog k) (ht : prog.underlying t = some (.map k e)) (b n : Nat) (f : Lit → Option Value) (hm : a.eval m = .map (some b)) (h : MapF w k b n f) (hn : n < maxLen)
  (key val : Value) (kl : Lit) (hx : a.eval x = key) (hv : a.eval v = val) (hkey : keyOf prog k key = some kl)
  (hK : ∀ w', MapF w' k b (n + 1) (upF f kl val) → w.mapTurned w' b → K' (a.put o.dst undef) w') : if Region.wanted o y then o.wp prog a w K' Q else k0 := by
 rw [if_pos hgd]
 obtain ⟨w', hrun, r1, r2⟩ := h.store K ht hn hkey val
 unfold Oper.wp
 simp [execOp, hop, hm, hx, hv, hrun, Result.andThen]
 exact hK w' r1 r2
def Keeps36 (w w' : World) : Prop := ∀ (k : Nat) (cs : Array Value) (fr : Nat × Nat), w.heap[k]? = some (Obj.cells cs 102 fr) → w'.heap[k]? = some (Obj.cells cs 102 fr)
theorem Keeps36.trans {a b c : World} (h : Keeps36 a b) (k : Keeps36 b c) : Keeps36 a c := fun i cs fr hi => k i cs fr (h i cs fr hi)
theorem cY {w w' : World} (h : Below w.heap.size w w') : Keeps36 w w' := fun k cs fr hk => (h.block k (Array.getElem?_eq_some_iff.1 hk).1).trans hk
theorem gZ {w w' : World} {b : Nat} (h : w.mapTurned w' b) : Keeps36 w w' := fun k cs fr hk => by
 refine (bF h k ?_).trans hk
 rintro rfl
 obtain ⟨es, clock, _, _, hb, _⟩ := h
 rw [hb] at hk
 cases hk
theorem gX {w w' : World} {B : Nat} {u : Value} {ks : List (Int × Int)} (g : w.grownBy w' u.ownBlock) (o : OwnK w B u ks) : Keeps36 w w' := fun k cs fr hk => by
 refine (g.block k (Array.getElem?_eq_some_iff.1 hk).1 ?_).trans hk
 intro e'
 rcases o.own.2 with ⟨rfl, _⟩ | ⟨q', cap', cur', rfl, _, hq, _⟩
 ·cases e'
 ·simp [Value.ownBlock] at e'
  subst e'
  rw [hk] at hq
  cases hq
theorem go {w : World} {p i : Nat} {cs : List Value} {T : TypeId} (V : VA w p cs T) (hT : T ≠ 102) (u : Value) : Keeps36 w (w.setCell ⟨p, i, none⟩ u) := fun k ds fr hk => by
 refine ((au w p i u).block k ?_).trans hk
 rintro rfl
 rw [V.blk] at hk
 cases hk
 exact hT rfl
theorem OwnT.setV {w : World} {B p i : Nat} {v : Value} {ts : List (Int × Int)} {cs : List Value} {T : TypeId} (h : OwnT w B v ts) (V : VA w p cs T) (hT : T ≠ 102) (u : Value) : OwnT (w.setCell ⟨p, i, none⟩ u) B v ts := by
 refine ⟨h.wf, h.own.1, ?_⟩
 rcases h.own.2 with h2 | ⟨q, cap, cur, e, hb, hg, r⟩
 ·exact Or.inl h2
 ·exact Or.inr ⟨q, cap, cur, e, hb, go V hT u q _ _ hg, r⟩
theorem OwnK.setV {w : World} {B p i : Nat} {v : Value} {ts : List (Int × Int)} {cs : List Value} {T : TypeId} (h : OwnK w B v ts) (V : VA w p cs T) (hT : T ≠ 208) (u : Value) : OwnK (w.setCell ⟨p, i, none⟩ u) B v ts := by
 refine ⟨h.wf, h.own.1, ?_⟩
 rcases h.own.2 with h2 | ⟨q, cap, cur, e, hb, hg, r⟩
 ·exact Or.inl h2
 ·refine Or.inr ⟨q, cap, cur, e, hb, ((au w p i u).block q ?_).trans hg, r⟩
  rintro rfl
  rw [V.blk] at hg
  cases hg
  exact hT rfl
theorem Cat.le {w : World} {p B : Nat} {S : Nat → Prop} {vs : List PV} (h : Cat w p B S vs) : B ≤ p := by
 obtain ⟨h1, h2, h3, bm, sv, n, f, a1, a2, _⟩ := h
 exact a2
theorem gH {w w' : World} {b B : Nat} (h : w.mapTurned w' b) (hb : B ≤ b) : Below B w w' := by
 have g := h.grown
 obtain ⟨es, clock, es', clock', hb', rfl⟩ := h
 exact ⟨rfl, rfl, rfl, by simp [ChangeMaps.setBlock], fun k hk => g.block k (by have := (Array.getElem?_eq_some_iff.1 hb').1; omega) (by intro e; cases e; omega)⟩
theorem iN {w3 w4 w5 w6 : World} {p B bm m N : Nat} {S : Nat → Prop} {vs : List PV} {x : PV} {f : Lit → Option Value} {sv v4 v6 : Value} {o : Obj} (hx : x.wf) (hc : chk x = 0) (h1 : ∀ x ∈ vs, x.wf) (h2 : ∀ x ∈ vs, chk x = 0) (h3 : vs.length < 64) (a2 : B ≤ p) (a3 : B ≤ bm) (a5 : m ≤ vs.length)
  (a7 : ∀ x ∈ vs, ∃ tv, f (kl x.id x.day) = some (.agg (x.cells tv).toArray) ∧ OwnT w3 B tv x.ts ∧ ∀ k, tv.ownBlock = some k → S k) (a8 : ∀ id day, I64 id → I64 day → (∀ x ∈ vs, ¬ (x.id = id ∧ x.day = day)) → f (kl id day) = none)
  (hth : ∀ y ∈ vs, ¬ (y.id = x.id ∧ y.day = x.day)) (F4 : MapF w3 208 bm m f) (b4 : Below w3.heap.size w3 w4) (o4 : OwnT w4 w3.heap.size v4 x.ts) (hN : N ≤ w3.heap.size) (hB : B ≤ w3.heap.size)
  (m5 : MapF w5 208 bm (m + 1) (upF f (kl x.id x.day) (.agg (x.cells v4).toArray))) (t5 : w4.mapTurned w5 bm) (OA : OwnK (w5.alloc o).drew B sv (keysOf vs)) (g6 : (w5.alloc o).drew.grownBy w6 sv.ownBlock) (o6 : OwnK w6 B v6 (keysOf vs ++ [(x.id, x.day)])) (V6 : VA w6 p [.map (some bm), sv] 154) :
  Cat (w6.setCell ⟨p, 1, none⟩ v6) p B (fun k => S k ∨ N ≤ k) (vs ++ [x]) := by
 have BA := (Below.refl w5.heap.size w5).alloc (Nat.le_refl _) o
 have chain : ∀ {b : Nat} {v : Value} {ts : List (Int × Int)}, OwnT w4 b v ts → OwnT (w6.setCell ⟨p, 1, none⟩ v6) b v ts := by
  intro b v ts h
  have h5 := (h.turned (F4.step b4) t5).step BA
  have h5' : OwnT (w5.alloc o).drew b v ts := ⟨h5.wf, h5.own⟩
  exact (h5'.grownK g6 OA).setV V6 (by decide) v6
 have m6 : MapF (w5.alloc o).drew 208 bm (m + 1) (upF f (kl x.id x.day) (.agg (x.cells v4).toArray)) := m5.step BA.drew
 have m7 := m6.grownK g6 OA
 refine ⟨?_, ?_, by simp; omega, bm, v6, m + 1, _, V6.set 1 v6, a2, a3, m7.setCell (V6.notMap m7) _, by simp; omega, ?_, ?_, ?_⟩
 ·intro y hy
  rcases List.mem_append.1 hy with hy | hy
  ·exact h1 y hy
  ·simp only [List.mem_cons, List.not_mem_nil, or_false] at hy; subst hy; exact hx
 ·intro y hy
  rcases List.mem_append.1 hy with hy | hy
  ·exact h2 y hy
  ·simp only [List.mem_cons, List.not_mem_nil, or_false] at hy; subst hy; exact hc
 ·have e : keysOf (vs ++ [x]) = keysOf vs ++ [(x.id, x.day)] := by simp [keysOf]
  rw [e]
  exact o6.setV V6 (by decide) v6
 ·intro y hy
  rcases List.mem_append.1 hy with hy | hy
  ·obtain ⟨tv, e1, e2, e3⟩ := a7 y hy
   refine ⟨tv, ?_, chain (e2.step b4), fun k hk => Or.inl (e3 k hk)⟩
   rw [bC _ _ (uG (h1 y hy).id (h1 y hy).day hx.id hx.day (hth y hy))]
   exact e1
  ·simp only [List.mem_cons, List.not_mem_nil, or_false] at hy
   subst hy
   refine ⟨v4, dq _ (keyedP.key (dB hx.id hx.day)) _, (chain o4).lower hB, fun k hk => Or.inr ?_⟩
   have := o4.block k hk
   omega
 ·intro id day i1 i2 hn
  have hne : kl id day ≠ kl x.id x.day := uG i1 i2 hx.id hx.day (fun e => hn x (by simp) ⟨e.1.symm, e.2.symm⟩)
  rw [bC _ _ hne]
  exact a8 id day i1 i2 (fun y hy => hn y (List.mem_append_left _ hy))
end Go.Proofs.YtjkiplndbcmmbaaGreatDoor
namespace Go.Proofs.YtjkiplndbcmmbaaGreatDoor
open Go.RowKit Go.Shelf
structure U16s (w : World) (v : Value) (zs : List Nat) : Prop where
 wf : ∀ z ∈ zs, z < 65536
 form : ∃ a c, v = .slice a zs.length c ∧ zs.length ≤ c ∧ c ≤ 9223372036854775807 ∧ (0 < zs.length → ∃ b off, a = some ⟨b, off, none⟩ ∧ b < w.heap.size ∧ ∀ k, k < zs.length → w.cell? ⟨b, off + k, none⟩ = some (.int .u16 ((zs.getD k 0 : Nat) : Int)))
theorem U16s.step {w w' : World} {v : Value} {zs : List Nat} (h : U16s w v zs) (k : Below w.heap.size w w') : U16s w' v zs := by
 obtain ⟨hw, a, c, e, h1, h2, h3⟩ := h
 refine ⟨hw, a, c, e, h1, h2, fun h0 => ?_⟩
 obtain ⟨b, off, ea, hb, hx⟩ := h3 h0
 exact ⟨b, off, ea, Nat.lt_of_lt_of_le hb k.size, fun j hj => (k.cell (p := ⟨b, off + j, none⟩) hb).trans (hx j hj)⟩
theorem U16s.at {w : World} {a : Option Addr} {n c : Nat} {zs : List Nat} (h : U16s w (.slice a n c) zs) (k : Nat) (hk : k < n) : ∃ b off, a = some ⟨b, off, none⟩ ∧ w.cell? ⟨b, off + k, none⟩ = some (.int .u16 ((zs.getD k 0 : Nat) : Int)) ∧ zs.getD k 0 < 65536 := by
 obtain ⟨hw, a', c', e, h1, h2, h3⟩ := h
 cases e
 obtain ⟨b, off, ea, hb, hx⟩ := h3 (by omega)
 exact ⟨b, off, ea, hx k hk, hw _ (by simp [hk])⟩
end Go.Proofs.YtjkiplndbcmmbaaGreatDoor
namespace Go.Proofs.YtjkiplndbcmmbaaGreatDoor
open Tryz
open Go.RowKit Go.Shelf
structure Pin (w : World) (x : PV) (tv : Value) : Prop where
 wf : x.wf
 tr : Tr w tv x.ts
 nilcap : ∀ n c, tv = .slice none n c → c = 0
 few : x.ts.length + 2 ≤ 8796093022208
theorem Pin.step {w w' : World} {x : PV} {tv : Value} (h : Pin w x tv) (k : Below w.heap.size w w') : Pin w' x tv := ⟨h.wf, h.tr.step k, h.nilcap, h.few⟩
structure Pvs (w : World) (v : Value) (xs : List PV) : Prop where
 form : ∃ a c, v = .slice a xs.length c ∧ xs.length ≤ c ∧ c ≤ 9223372036854775807 ∧ (0 < xs.length → ∃ b off, a = some ⟨b, off, none⟩ ∧ b < w.heap.size ∧ ∀ k (hk : k < xs.length), ∃ tv, (∀ j u, (xs[k].cells tv)[j]? = some u → w.cell? ⟨b, off + k * 9 + j, none⟩ = some u) ∧ Pin w xs[k] tv)
theorem Pvs.step {w w' : World} {v : Value} {xs : List PV} (h : Pvs w v xs) (k : Below w.heap.size w w') : Pvs w' v xs := by
 obtain ⟨a, c, e, h1, h2, h3⟩ := h
 refine ⟨a, c, e, h1, h2, fun h0 => ?_⟩
 obtain ⟨b, off, ea, hb, hx⟩ := h3 h0
 refine ⟨b, off, ea, Nat.lt_of_lt_of_le hb k.size, fun i hi => ?_⟩
 obtain ⟨tv, hc, hp⟩ := hx i hi
 exact ⟨tv, fun j u hj => (k.cell (p := ⟨b, off + i * 9 + j, none⟩) hb).trans (hc j u hj), hp.step k⟩
theorem Pvs.at {w : World} {a : Option Addr} {n c : Nat} {xs : List PV} (h : Pvs w (.slice a n c) xs) (k : Nat) (hk : k < n) : ∃ b off x tv, a = some ⟨b, off, none⟩ ∧ xs[k]? = some x ∧ (∀ j u, (x.cells tv)[j]? = some u → w.cell? ⟨b, off + k * 9 + j, none⟩ = some u) ∧ Pin w x tv := by
 obtain ⟨a', c', e, h1, h2, h3⟩ := h
 cases e
 obtain ⟨b, off, ea, hb, hx⟩ := h3 (by omega)
 obtain ⟨tv, hc, hp⟩ := hx k hk
 exact ⟨b, off, xs[k], tv, ea, by simp [hk], hc, hp⟩
theorem ldM {w : World} {ops : Array Oper} {rest : List Oper} {o : Oper} {a : Act} {Q : Exit → Act → World → Prop} (hgd : o.guard = none) (t : TypeId) (x : Operand) (ho : o.op = .load t x)
  (p off : Nat) (hx : a.eval x = .pointer (some ⟨p, off, none⟩)) (cs : List Value) (h : ∀ j u, cs[j]? = some u → w.cell? ⟨p, off + j, none⟩ = some u) (d : TypeDesc) (hu : prog.underlying t = some d) (hd : d.isRow = true) (hi : (prog.info? t).map (·.size) = some cs.length)
  (k : wpList prog ops Q rest (a.put o.dst (.agg cs.toArray)) w) : wpList prog ops Q (o :: rest) a w :=
 wpList_load_mid hgd t x ho p off hx cs d h hu hd hi k
end Go.Proofs.YtjkiplndbcmmbaaGreatDoor
namespace Go.Proofs.YtjkiplndbcmmbaaGreatDoor
open Go.RowKit Go.Shelf
def SB (S : Nat → Prop) (v : Value) : Prop := ∀ b off n c, v = .slice (some ⟨b, off, none⟩) n c → 0 < n → S b
theorem SB.mono {S S' : Nat → Prop} {v : Value} (h : SB S v) (k : ∀ b, S b → S' b) : SB S' v := fun b off n c e hn => k b (h b off n c e hn)
structure Dl (w : World) (S : Nat → Prop) (v : Value) (xs : List PV) : Prop where
 form : ∃ a c, v = .slice a xs.length c ∧ xs.length ≤ c ∧ c ≤ 9223372036854775807 ∧ (a = none → c = 0) ∧ (0 < xs.length → ∃ b off, a = some ⟨b, off, none⟩ ∧ b < w.heap.size ∧ S b ∧ ∀ k (hk : k < xs.length), ∃ tv, (∀ j u, (xs[k].cells tv)[j]? = some u → w.cell? ⟨b, off + k * 9 + j, none⟩ = some u) ∧ Tr w tv xs[k].ts ∧ SB S tv)
theorem Dl.step {w w' : World} {S : Nat → Prop} {v : Value} {xs : List PV} (h : Dl w S v xs) (k : Below w.heap.size w w') : Dl w' S v xs := by
 obtain ⟨a, c, e, h1, h2, hn, h3⟩ := h
 refine ⟨a, c, e, h1, h2, hn, fun h0 => ?_⟩
 obtain ⟨b, off, ea, hb, hS, hx⟩ := h3 h0
 refine ⟨b, off, ea, Nat.lt_of_lt_of_le hb k.size, hS, fun i hi => ?_⟩
 obtain ⟨tv, hc, hp, hs⟩ := hx i hi
 exact ⟨tv, fun j u hj => (k.cell (p := ⟨b, off + i * 9 + j, none⟩) hb).trans (hc j u hj), hp.step k, hs⟩
theorem Dl.mono {w : World} {S S' : Nat → Prop} {v : Value} {xs : List PV} (h : Dl w S v xs) (k : ∀ b, b < w.heap.size → S b → S' b) : Dl w S' v xs := by
 obtain ⟨a, c, e, h1, h2, hn, h3⟩ := h
 refine ⟨a, c, e, h1, h2, hn, fun h0 => ?_⟩
 obtain ⟨b, off, ea, hb, hS, hx⟩ := h3 h0
 refine ⟨b, off, ea, hb, k b hb hS, fun i hi => ?_⟩
 obtain ⟨tv, hc, hp, hs⟩ := hx i hi
 refine ⟨tv, hc, hp, fun b off n c e hn => ?_⟩
 obtain ⟨_, a, c', e', _, _, h3⟩ := hp
 rw [e'] at e
 cases e
 obtain ⟨b', off', e2, hb', _⟩ := h3 hn
 cases e2
 exact k b hb' (hs b off _ _ e' hn)
theorem Dl.at {w : World} {S : Nat → Prop} {a : Option Addr} {n c : Nat} {xs : List PV} (h : Dl w S (.slice a n c) xs) (k : Nat) (hk : k < n) : ∃ b off x tv, a = some ⟨b, off, none⟩ ∧ b < w.heap.size ∧ xs[k]? = some x ∧ (∀ j u, (x.cells tv)[j]? = some u → w.cell? ⟨b, off + k * 9 + j, none⟩ = some u) ∧ Tr w tv x.ts ∧ SB S tv := by
 obtain ⟨a', c', e, h1, h2, _, h3⟩ := h
 cases e
 obtain ⟨b, off, ea, hb, _, hx⟩ := h3 (by omega)
 obtain ⟨tv, hc, hp, hs⟩ := hx k hk
 exact ⟨b, off, xs[k], tv, ea, hb, by simp [hk], hc, hp, hs⟩
end Go.Proofs.YtjkiplndbcmmbaaGreatDoor
namespace Go.Proofs.YtjkiplndbcmmbaaGreatDoor
open Tryz
open Go.RowKit Go.Shelf
def pcs (cs : List (PV × Value)) : List Value := cs.flatMap fun c => c.1.cells c.2
theorem tP (cs : List (PV × Value)) : (pcs cs).length = cs.length * 9 := by
 induction cs with
 | nil => rfl
 | cons c cs ih =>
  show (c.1.cells c.2 ++ pcs cs).length = _
  rw [List.length_append, ih, PV.len, List.length_cons]
  omega
theorem tN (a b : List (PV × Value)) : pcs (a ++ b) = pcs a ++ pcs b := by simp [pcs]
theorem tO (cs : List (PV × Value)) : ∀ k (hk : k < cs.length) j u, (cs[k].1.cells cs[k].2)[j]? = some u → (pcs cs)[k * 9 + j]? = some u := by
 induction cs with
 | nil => intro k hk; simp at hk
 | cons c cs ih =>
  intro k hk j u hj
  show (c.1.cells c.2 ++ pcs cs)[k * 9 + j]? = some u
  cases k with
  | zero =>
   have hl : j < 9 := by
    have := (List.getElem?_eq_some_iff.1 hj).1
    simpa [PV.len] using this
   rw [Nat.zero_mul, Nat.zero_add, List.getElem?_append_left (by rw [PV.len]; exact hl)]
   exact hj
  | succ k =>
   rw [List.getElem?_append_right (by rw [PV.len]; omega), PV.len, show (k + 1) * 9 + j - 9 = k * 9 + j by omega]
   exact ih k (by simpa using hk) j u (by simpa using hj)
structure OwnP (w : World) (B : Nat) (T : TypeId) (v : Value) (cs : List (PV × Value)) : Prop where
 form : ∀ c ∈ cs, ∃ a n k, c.2 = Value.slice a n k
 own : w.ownsRow B T 9 v cs.length (pcs cs)
theorem OwnP.block {w : World} {B : Nat} {T : TypeId} {v : Value} {cs : List (PV × Value)} (h : OwnP w B T v cs) : ∀ k, v.ownBlock = some k → B ≤ k := by
 obtain ⟨hl, h2⟩ := h.own
 rcases h2 with ⟨rfl, h0⟩ | ⟨g, cap, cur, rfl, hb, _⟩
 ·intro k hk; simp [Value.ownBlock] at hk
 ·intro k hk; simp [Value.ownBlock] at hk; omega
theorem OwnP.step {w w' : World} {B : Nat} {T : TypeId} {v : Value} {cs : List (PV × Value)} (h : OwnP w B T v cs) (k : Below w.heap.size w w') : OwnP w' B T v cs := by
 refine ⟨h.form, h.own.1, ?_⟩
 rcases h.own.2 with h2 | ⟨g, cap, cur, e, hb, hg, r⟩
 ·exact Or.inl h2
 ·have hlt : g < w.heap.size := by
   rcases Nat.lt_or_ge g w.heap.size with hlt | hge
   ·exact hlt
   ·rw [Array.getElem?_eq_none hge] at hg; cases hg
  exact Or.inr ⟨g, cap, cur, e, hb, (k.block g hlt).trans hg, r⟩
theorem tQ {cs : List (PV × Value)} (h : ∀ c ∈ cs, ∃ a n k, c.2 = Value.slice a n k) {u : Value} (hu : u ∈ pcs cs) : u.oneCell' = true := by
 unfold pcs at hu
 obtain ⟨c, hc, hu⟩ := List.mem_flatMap.1 hu
 exact bD c.1 (h c hc) u hu
def ZP : Value := .agg #[.int .i64 0, .int .i64 0, .int .i64 0, .int .i64 0, .int .i64 0, .int .i64 0, .int .i64 0, .int .i64 0, .slice none 0 0]
def PT (TS T : TypeId) : Prop := prog.underlying TS = some (.slice T) ∧ ∃ i, prog.info? T = some i ∧ i.zero = some ZP ∧ i.size = 9 ∧ i.bytes = 88
theorem vM : (prog.info? 162).map (fun i => (i.zero, i.size, i.bytes)) = some (some ZP, 9, 88) := by kernel_rfl
theorem ptP : PT 221 162 := by
 obtain ⟨i, hi, hz⟩ := Option.map_eq_some_iff.1 vM
 simp only [Prod.mk.injEq] at hz
 exact ⟨underlying221, i, hi, hz.1, hz.2.1, hz.2.2⟩
theorem wT {w : World} {o : Oper} {a : Act} {Q : Exit → Act → World → Prop} {K : Act → World → Prop} (s x : Operand) (TS T : TypeId) (pt : PT TS T)
  (ho : o.op = .call { callee := .builtin .append, args := #[s, x], argTypes := #[TS, TS] })
  (B : Nat) (cs bs : List (PV × Value)) (v : Value) (ad : Addr) (n c : Nat) (hs : a.eval s = v) (hx : a.eval x = .slice (some ad) n c) (hn : n = bs.length)
  (hown : OwnP w B T v cs) (hb : ∀ c ∈ bs, ∃ a n k, c.2 = Value.slice a n k) (hcell : ∀ j u, (pcs bs)[j]? = some u → w.cell? (ad.add j) = some u) (hB : B ≤ w.heap.size) (hl : cs.length + bs.length ≤ 1000)
  (h : ∀ v' w', OwnP w' B T v' (cs ++ bs) → Below B w w' → w.grownBy w' v.ownBlock → K (a.put o.dst v') w') : o.wp prog a w K Q := by
 obtain ⟨hu, i0, hi, hz0, hz1, hz2⟩ := pt
 subst hn
 refine wp_append_own _ s x TS ho B T i0 ZP 9 88 hu hi hz0 hz1 hz2 rfl (by decide) v cs.length (pcs cs) hs hown.own ad bs.length c (pcs bs) hx (tP bs) hcell (fun u hu => tQ hb hu) (by unfold maxLen; omega) (by omega) hB (fun v' w' g1 g2 _ => h v' w' ⟨fun t ht => ?_, ?_⟩ ((Below.refl _ _).grown g2 hB hown.block) g2)
 ·rcases List.mem_append.1 ht with ht | ht
  ·exact hown.form t ht
  ·exact hb t ht
 ·rw [List.length_append, tN]
  exact g1
end Go.Proofs.YtjkiplndbcmmbaaGreatDoor