/- disk IX: write: the sectors are appended, one by one. -/
import Derived.Test.YtgabklihgjjjeaaGreatDoorPE
import Derived.Great.BuildSlice
import Derived.Maps.AppendAt
import Derived.Deep.RegionHeld3
import Derived.Test.YtgabklihgjjjeaaGreatDoorGy
namespace Go.Proofs.YtgabklihgjjjeaaGreatDoor
open Go.RowKit Go.Shelf Go.Maps pk
set_option linter.unusedVariables false
attribute [local go_sem] Oper.semAt_some

theorem VA.keptN {A B : World} {p : Nat} {cs : List Value} {T : TypeId} {row : Option Nat} (h : VA A p cs T) (hg : A.grownBy B row) (hr : ∀ r, row = some r → ∃ o, A.heap[r]? = some o ∧ o.isCells = false) : VA B p cs T := by
  refine ⟨(hg.block p h.lt (fun e => ?_)).trans h.blk⟩
  obtain ⟨o, ho, hc⟩ := hr p e.symm
  rw [h.blk] at ho
  cases ho
  simp [Obj.isCells] at hc
theorem Own.keptN {A W : World} {B : Nat} {v : Value} {ss : List (List Nat)} {row : Option Nat} (h : Own KS A B v ss) (hg : A.grownBy W row) (hr : ∀ r, row = some r → ∃ o, A.heap[r]? = some o ∧ o.isCells = false) : Own KS W B v ss := by
  refine h.blk fun g hv => hg.block g (h.lt g hv) (fun e => ?_)
  obtain ⟨o, ho, hc⟩ := hr g e.symm
  obtain ⟨cs, hcs⟩ := row_blk h hv
  rw [hcs] at ho
  cases ho
  simp [Obj.isCells] at hc
/-- between two rounds -/
structure WI (Wl : World) (B F0 : Nat) (e : Ent) (bs : List Nat) (pre : List Nat) (W : World) : Prop where
  ex : ∃ v', VA W e.q [v', .int .i64 e.sy] 105 ∧ Own KS W B v' (e.ss ++ pre.map (part bs)) ∧ (∀ g, v'.ownBlock = some g → e.v.ownBlock = some g ∨ Wl.heap.size ≤ g)
  box : VA W F0 [ptr e.q] 76
  but : But (XF e) Wl W
  kee : Kee Wl W
theorem WI.own (Wl : World) (B F0 : Nat) (e : Ent) (bs : List Nat) : OwnFrom Wl.heap.size (WI Wl B F0 e bs) := fun s A A' row h hg hr => by
  have hr2 : ∀ r, row = some r → ∃ o, A.heap[r]? = some o ∧ o.isCells = false := fun r e => (hr r e).2
  obtain ⟨v', h1, h2, h3⟩ := h.ex
  exact ⟨⟨v', h1.keptN hg hr2, h2.keptN hg hr2, h3⟩, h.box.keptN hg hr2,
    ⟨hg.os.trans h.but.os, hg.tape.trans h.but.tape, hg.output.trans h.but.output, Nat.le_trans h.but.size hg.size, fun i hi hx => (hg.block i (Nat.lt_of_lt_of_le hi h.but.size) (fun e => by have := (hr i e.symm).1; omega)).trans (h.but.block i hi hx)⟩,
    kee_own _ Wl s A A' row h.kee hg hr⟩
theorem keeps_but {B : Nat} {Y : Nat → Prop} {W W' : World} (h : But Y W W') (hy : ∀ i, Y i → ∀ o, W.heap[i]? = some o → o.isCells = true) : KeepsFrom B W W' :=
  ⟨h.size, fun k o _ hk ho => (h.block k (hlt_of hk) (fun y => by have := hy k y o hk; rw [this] at ho; cases ho)).trans hk⟩
theorem kee_but {Y : Nat → Prop} {W W' : World} (h : But Y W W') (hy : ∀ i, Y i → ∀ cs T z, W.heap[i]? = some (Obj.cells cs T z) → Dt T) : Kee W W' :=
  ⟨h.os, h.tape, h.output, h.size, fun i cs T z e hT => (h.block i (hlt_of e) (fun y => hT (hy i y cs T z e))).trans e⟩
theorem quiet_ld {ops : Array Oper} {C : World → Prop} {Q : Act → Prop} {rest : List Oper} {o : Oper} {a : Act} (hgd : o.guard = none) (t : TypeId) (x : Operand) (ho : o.op = .load t x) (p : Nat) (hx : a.eval x = .pointer (some ⟨p, 0, none⟩)) (v : Value)
    (hrun : ∀ w', C w' → (loadVar t ⟨p, 0, none⟩).run Tryz.prog w' = .ok v w') (k : wpQuiet Tryz.prog ops C Q rest (a.put o.dst v)) : wpQuiet Tryz.prog ops C Q (o :: rest) a := by
  refine wpQuiet_step (fun K hK => ?_)
  rw [if_pos (by simp [Region.wanted, hgd])]
  refine ⟨v, fun w' hw => ?_, hK _ k⟩
  unfold Oper.quietAt execOp
  simp only [ho, hx, Instr.loadAt, Instr.sureAddr, Sem.run_bind, Sem.run_pure, Result.andThen_ok, hrun w' hw]
  exact ⟨rfl, rfl⟩
theorem stAIn {F : Fence} {n : Nat} {w : World} {ops : Array Oper} {rest : List Oper} {o : Oper} {a : Act} {Q : Exit → Act → World → Prop} (hgd : o.guard = none) (t : TypeId) (x y : Operand) (ho : o.op = .store t x y)
    (p : Nat) (hx : a.eval x = .pointer (some ⟨p, 0, none⟩)) (cs ds : List Value) (hy : a.eval y = .agg ds.toArray) (T : TypeId) (h : VA w p cs T) (hi : (Tryz.prog.info? t).map (·.size) = some ds.length) (hl : cs.length = ds.length) (h1 : ∀ v ∈ ds, v.oneCell' = true)
    (k : ∀ w', VA w' p ds T → Upd p w w' → wpListIn F n Tryz.prog ops Q rest (a.put o.dst undef) w') : wpListIn F n Tryz.prog ops Q (o :: rest) a w := by
  refine wpListIn_plain hgd fun K hK' => ?_
  have hrun := run_storeVar_row (P := Tryz.prog) w p T t cs.toArray ds.toArray h.blk (by simpa using hi) (by simpa using hl) (Array.all_eq_true_iff_forall_mem.2 (fun v hv => h1 v (by simpa using hv)))
  unfold Oper.wpIn
  refine ⟨by simp [Oper.about, ho], ?_⟩
  rw [Oper.semAt_plain F _ _ (by rw [ho]; intro c hc'; cases hc')]
  unfold execOp
  simp only [ho, hx, hy, Instr.storeAt, Instr.sureAddr, Sem.run_bind, Sem.run_pure, Result.andThen_ok, hrun]
  exact hK' _ _ (k _ ⟨setRow_heap w p _ _ _ _ h.blk⟩ (upd_setRow w p _))
theorem zS : (Tryz.prog.info? 107).map (fun i => (i.zero, i.size)) = some (some (.agg (List.replicate 32 (Value.int .u8 0)).toArray), 32) := by kernel_rfl
theorem fillS (s : List Nat) : Instr.fill (fun i => some (i * 32, 32)) ((Array.range (1 * 32)).map ((Value.agg (List.replicate 32 (Value.int .u8 0)).toArray).cells[· % (Value.agg (List.replicate 32 (Value.int .u8 0)).toArray).cells.size]!)) [(0, Value.agg (sect s).toArray)] = some (sect s).toArray := by kernel_rfl
theorem bldS (s : List Nat) (w : World) : (Instr.buildSlice 103 1 #[(0, .agg (sect s).toArray)]).run Tryz.prog w = .ok (.slice (some ⟨w.heap.size, 0, none⟩) 1 1) (w.alloc (.cells (sect s).toArray 107)) := by
  obtain ⟨i, hi, hz⟩ := Option.map_eq_some_iff.1 zS
  simp only [Prod.mk.injEq] at hz
  refine run_buildSlice w _ 107 1 _ _ i _ Tryz.underlying103 hi hz.1 (by rw [hz.2]; decide) (by rw [hz.2]; decide) ?_
  rw [hz.2]
  exact fillS s
theorem bldSw {w : World} {o : Oper} {a : Act} {K : Act → World → Prop} {Q : Exit → Act → World → Prop} (z : Operand) (ho : o.op = .buildSlice 103 1 #[(0, z)]) (s : List Nat) (hz : a.eval z = .agg (sect s).toArray)
    (h : K (a.put o.dst (.slice (some ⟨w.heap.size, 0, none⟩) 1 1)) (w.alloc (.cells (sect s).toArray 107))) : o.wp Tryz.prog a w K Q := by
  obtain ⟨i, hi, hz2⟩ := Option.map_eq_some_iff.1 zS
  simp only [Prod.mk.injEq] at hz2
  refine wp_buildSlice 103 107 1 _ ho _ i _ Tryz.underlying103 hi hz2.1 (by rw [hz2.2]; decide) (by rw [hz2.2]; decide) ?_ h
  rw [hz2.2]
  simp only [List.map_toArray, List.map_cons, List.map_nil, hz]
  exact fillS s
/-- append of one sector -/
theorem appKS {w : World} {y : Nat → Option Bool} {o : Oper} {a : Act} {Q : Exit → Act → World → Prop} {KK : Act → World → Prop} {k0 : Prop} (hgd : Region.wanted o y = true) (s x : Operand)
    (ho : o.op = .call { callee := .builtin .append, args := #[s, x], argTypes := #[103, 103] })
    (B : Nat) (xs : List (List Nat)) (d : List Nat) (v : Value) (g : Nat) (hs : a.eval s = v) (hx : a.eval x = .slice (some ⟨g, 0, none⟩) 1 1)
    (hown : Own KS w B v xs) (hV : VA w g (sect d) 107) (hB : B ≤ w.heap.size) (hl : xs.length + 1 ≤ 100000)
    (h : ∀ v' w', Own KS w' B v' (xs ++ [d]) → w.grownBy w' v.ownBlock → (v'.ownBlock = v.ownBlock ∨ v'.ownBlock = some w.heap.size) → KK (a.put o.dst v') w') :
    if Region.wanted o y then o.wp Tryz.prog a w KK Q else k0 := by
  rw [if_pos hgd]
  obtain ⟨i0, z, hi, hz0, hz1, hz2, hz3⟩ := KS.info
  obtain ⟨v', w', hr, h2, h3, h4, h5⟩ := run_append_own_at (P := Tryz.prog) w B 103 o.type 107 i0 z 32 32 KS.und hi hz0 hz1 hz2 hz3 (by decide) v xs.length (KS.cells xs) hown.own ⟨g, 0, none⟩ 1 1 (sect d) (sect_len d) (fun j u hj => by rw [Go.WideShapes.add_plain, Nat.zero_add]; exact hV.cell j hj) (sect_one d) (by unfold maxLen; omega) (by omega) hB
  unfold Oper.wp execOp
  simp only [ho, resolve, invoke, builtin, Sem.run_bind, Sem.run_pure, Result.andThen_ok, List.map_toArray, List.map_cons, List.map_nil, hs, hx, hr]
  refine h v' w' ⟨?_⟩ h3 h5
  have e1 : KS.cells (xs ++ [d]) = KS.cells xs ++ sect d := by
    rw [KS.cells_app]
    show KS.cells xs ++ (sect d ++ []) = _
    rw [List.append_nil]
  rw [List.length_append, List.length_singleton, e1]
  exact h2
/-- a drawn region of a round, what is loaded held by S -/
theorem region_round_held {L : List Oper} {Q : Exit → Act → World → Prop} {n l id : Nat} {a : Act} {w : World} (S : World → Prop) (hm : Tryz.prog.follows .mixedOrders = true) (hd : noDefer L.toArray = true) (hq : ¬ LetsOut Q) (hS : S w.drew)
    (h : S w.drew → wpAnyH Tryz.prog .any L.toArray (NoPanic Q) S L.toArray.size (Array.replicate L.toArray.size false) a w.drew) : (Code.region id L.toArray true).wpIn (Fence.wide.inRound l) n Tryz.prog Q a w :=
  wpIn_mono (region_round (Q := NoPanic Q) hm hd (fun ⟨a, w, h⟩ => hq ⟨a, w, h⟩) (wpAny_of_held _ _ _ _ (h hS))) NoPanic.imp
theorem wantIf {o : Oper} {y : Nat → Option Bool} {a : Act} {w : World} {K : Act → World → Prop} {Q : Exit → Act → World → Prop} {k0 : Prop} (h : Region.wanted o y = true) (k : o.wp Tryz.prog a w K Q) : if Region.wanted o y = true then o.wp Tryz.prog a w K Q else k0 := by
  rw [if_pos h]
  exact k
/-- the files, without where they lie -/
def ab (es : List Ent) : List (List UInt8 × List (List Nat) × Nat) := es.map fun e => (e.nm, e.ss, e.sy)
/-- .. with sectors appended to one -/
def apd : List (List UInt8 × List (List Nat) × Nat) → List UInt8 → List (List Nat) → List (List UInt8 × List (List Nat) × Nat)
  | [], l, ps => [(l, ps, 0)]
  | (n, ss, sy) :: t, l, ps => if n = l then (n, ss ++ ps, sy) :: t else (n, ss, sy) :: apd t l ps
/-- the sectors of bytes -/
def parts (bs : List Nat) : List (List Nat) := (List.range (cnt bs.length)).map (part bs)
end Go.Proofs.YtgabklihgjjjeaaGreatDoor
