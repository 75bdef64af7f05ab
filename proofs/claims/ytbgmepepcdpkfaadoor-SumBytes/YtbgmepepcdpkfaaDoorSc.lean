/- Arrays in a block of their own, known whole: loads and stores of all of it; the contracts of turned, word, turns. -/
import Derived.Test.YtbgmepepcdpkfaaDoorSb
import Derived.Laws.Rows
import Derived.Laws.Tables
import Derived.BigQuiet
import Derived.Deep.RegionHeld3
import Derived.Deep.DeepCutAuto
namespace Go.Proofs.YtbgmepepcdpkfaaDoor
open Go.RowKit
set_option linter.unusedVariables false

theorem bel_drewN {B : Nat} {a w : World} (h : Below B a w) (n : Nat) : Below B a (w.drewN n) := ⟨h.os, h.tape, h.output, h.size, h.block⟩
/-- words as cells -/
def cw (xs : List Nat) : List Value := xs.map fun (d : Nat) => Value.int .u32 (d : Int)
theorem cw_len (xs : List Nat) : (cw xs).length = xs.length := by simp [cw]
theorem cw_get (xs : List Nat) (k : Nat) (h : k < xs.length) : (cw xs)[k]? = some (.int .u32 ((xs.getD k 0 : Nat) : Int)) := by simp [cw, h]
theorem cw_one {xs : List Nat} {u : Value} (h : u ∈ cw xs) : u.oneCell' = true := by
  obtain ⟨x, _, rfl⟩ := List.mem_map.1 h; rfl
theorem cw_set (xs : List Nat) (k d : Nat) : cw (xs.set k d) = (cw xs).set k (.int .u32 (d : Int)) := by simp [cw, List.map_set]
theorem cl_set (xs : List Nat) (k d : Nat) : cl (xs.set k d) = (cl xs).set k (.int .u8 (d : Int)) := by simp [cl, List.map_set]
/-- a block known whole -/
structure VA (w : World) (p : Nat) (cs : List Value) (T : TypeId) : Prop where
  blk : w.heap[p]? = some (.cells cs.toArray T (0, 0))
theorem VA.lt {w : World} {p : Nat} {cs : List Value} {T : TypeId} (h : VA w p cs T) : p < w.heap.size := by
  rcases Nat.lt_or_ge p w.heap.size with hlt | hge
  · exact hlt
  · have := h.blk; rw [Array.getElem?_eq_none hge] at this; cases this
theorem VA.cell {w : World} {p : Nat} {cs : List Value} {T : TypeId} (h : VA w p cs T) (k : Nat) {v : Value} (hv : cs[k]? = some v) : w.cell? ⟨p, k, none⟩ = some v := by
  rw [cell_of_row w p k _ _ _ h.blk]; simpa using hv
theorem VA.free {w : World} {p : Nat} {cs : List Value} {T : TypeId} (h : VA w p cs T) (k : Nat) : w.frozen? ⟨p, k, none⟩ = false := frozen_of_row w p k _ _ h.blk
theorem VA.step {w w' : World} {p : Nat} {cs : List Value} {T : TypeId} (h : VA w p cs T) (k : Below w.heap.size w w') : VA w' p cs T := ⟨by rw [k.block p h.lt]; exact h.blk⟩
theorem VA.alloc {w : World} {p : Nat} {cs : List Value} {T : TypeId} (h : VA w p cs T) (o : Obj) : VA (w.alloc o) p cs T := h.step ((Below.refl _ _).alloc (Nat.le_refl _) o)
theorem VA.drew {w : World} {p : Nat} {cs : List Value} {T : TypeId} (h : VA w p cs T) : VA w.drew p cs T := ⟨h.blk⟩
theorem VA.drewN {w : World} {p : Nat} {cs : List Value} {T : TypeId} (h : VA w p cs T) (n : Nat) : VA (w.drewN n) p cs T := ⟨h.blk⟩
theorem va_new (w : World) (cs : List Value) (T : TypeId) : VA (w.alloc (.cells cs.toArray T)) w.heap.size cs T := ⟨Go.heap_alloc_new w _⟩
theorem VA.set {w : World} {p : Nat} {cs : List Value} {T : TypeId} (h : VA w p cs T) (k : Nat) (u : Value) : VA (w.setCell ⟨p, k, none⟩ u) p (cs.set k u) T := ⟨by rw [Go.heap_setCell_same w p k _ _ u h.blk]; simp⟩
theorem VA.set_other {w : World} {p q : Nat} {cs : List Value} {T : TypeId} (h : VA w p cs T) (hq : p ≠ q) (k : Nat) (u : Value) : VA (w.setCell ⟨q, k, none⟩ u) p cs T := ⟨by rw [Go.heap_setCell_other w _ p u hq]; exact h.blk⟩
/-- only the block p is another -/
structure Upd (p : Nat) (w w' : World) : Prop where
  os : w'.os = w.os
  tape : w'.tape = w.tape
  output : w'.output = w.output
  size : w'.heap.size = w.heap.size
  block : ∀ k, k ≠ p → w'.heap[k]? = w.heap[k]?
theorem VA.upd {w w' : World} {p q : Nat} {cs : List Value} {T : TypeId} (h : VA w q cs T) (k : Upd p w w') (hq : q ≠ p) : VA w' q cs T := ⟨by rw [k.block q hq]; exact h.blk⟩
theorem Upd.bel {p B : Nat} {w0 w w' : World} (k : Upd p w w') (h : Below B w0 w) (hp : B ≤ p) : Below B w0 w' :=
  ⟨k.os.trans h.os, k.tape.trans h.tape, k.output.trans h.output, by rw [k.size]; exact h.size, fun b hb => (k.block b (by omega)).trans (h.block b hb)⟩
theorem upd_setRow (w : World) (p : Nat) (cs : Array Value) : Upd p w (w.setRow p cs) :=
  ⟨rfl, rfl, rfl, by simp, fun k hk => by simp only [World.setRow, Array.getElem?_modify]; rw [if_neg (fun e => hk e.symm)]⟩
/-- all of an array is loaded -/
theorem ldA {w : World} {ops : Array Oper} {rest : List Oper} {o : Oper} {a : Act} {Q : Exit → Act → World → Prop} (hgd : o.guard = none) (t : TypeId) (x : Operand) (ho : o.op = .load t x)
    (p : Nat) (hx : a.eval x = .pointer (some ⟨p, 0, none⟩)) (cs : List Value) (T : TypeId) (h : VA w p cs T) (n : Nat) (e : TypeId) (hu : Tryd.prog.underlying t = some (.array n e)) (hi : (Tryd.prog.info? t).map (·.size) = some cs.length)
    (k : wpList Tryd.prog ops Q rest (a.put o.dst (.agg cs.toArray)) w) : wpList Tryd.prog ops Q (o :: rest) a w := by
  refine wpList_plain hgd fun K hK' => ?_
  have hrun := run_loadVar_row (P := Tryd.prog) w p T t cs.toArray (0, 0) _ h.blk hu rfl (by simpa using hi)
  unfold Oper.wp execOp
  simp only [ho, hx, Instr.loadAt, Instr.sureAddr, Sem.run_bind, Sem.run_pure, Result.andThen_ok, hrun]
  exact hK' _ _ k
/-- all of an array is stored -/
theorem stA {w : World} {ops : Array Oper} {rest : List Oper} {o : Oper} {a : Act} {Q : Exit → Act → World → Prop} (hgd : o.guard = none) (t : TypeId) (x y : Operand) (ho : o.op = .store t x y)
    (p : Nat) (hx : a.eval x = .pointer (some ⟨p, 0, none⟩)) (cs ds : List Value) (hy : a.eval y = .agg ds.toArray) (T : TypeId) (h : VA w p cs T) (hi : (Tryd.prog.info? t).map (·.size) = some ds.length) (hl : cs.length = ds.length) (h1 : ∀ v ∈ ds, v.oneCell' = true)
    (k : ∀ w', VA w' p ds T → Upd p w w' → wpList Tryd.prog ops Q rest (a.put o.dst undef) w') : wpList Tryd.prog ops Q (o :: rest) a w := by
  refine wpList_plain hgd fun K hK' => ?_
  have hrun := run_storeVar_row (P := Tryd.prog) w p T t cs.toArray ds.toArray h.blk (by simpa using hi) (by simpa using hl) (Array.all_eq_true_iff_forall_mem.2 (fun v hv => h1 v (by simpa using hv)))
  unfold Oper.wp execOp
  simp only [ho, hx, hy, Instr.storeAt, Instr.sureAddr, Sem.run_bind, Sem.run_pure, Result.andThen_ok, hrun]
  exact hK' _ _ (k _ ⟨setRow_heap w p _ _ _ _ h.blk⟩ (upd_setRow w p _))
/-- turned right by n bits -/
def rot (x n : Nat) : Nat := x * 2 ^ (32 - n) % 4294967296 ||| x / 2 ^ n
theorem rot_lt {x n : Nat} (h : x < 4294967296) : rot x n < 4294967296 := by
  refine Nat.or_lt_two_pow (n := 32) (Nat.mod_lt _ (by omega)) ?_
  have := Nat.div_le_self x (2 ^ n)
  omega
theorem rot_or (x n : Nat) (h : x < 4294967296) : bits .or .u32 ((x : Int) * ((2 ^ (32 - n) : Nat) : Int) % 4294967296) ((x : Int) / ((2 ^ n : Nat) : Int)) = ((rot x n : Nat) : Int) := by
  have := u32_or_nat (x * 2 ^ (32 - n) % 4294967296) (x / 2 ^ n) (Nat.mod_lt _ (by omega)) (by have := Nat.div_le_self x (2 ^ n); omega)
  rw [← show ((x * 2 ^ (32 - n) % 4294967296 : Nat) : Int) = (x : Int) * ((2 ^ (32 - n) : Nat) : Int) % 4294967296 by rw [Int.natCast_emod, Int.natCast_mul]; rfl, ← show ((x / 2 ^ n : Nat) : Int) = (x : Int) / ((2 ^ n : Nat) : Int) by rw [Int.natCast_ediv]]
  exact this
def Turn (n : Nat) : Prop := n = 2 ∨ n = 6 ∨ n = 7 ∨ n = 11 ∨ n = 13 ∨ n = 17 ∨ n = 18 ∨ n = 19 ∨ n = 22 ∨ n = 25
theorem rotl_ok (x n : Nat) (w : World) (hx : x < 4294967296) (hn : Turn n) :
    Calls Tryd.prog 38 #[.int .u32 x, .int .i64 (-(n : Int))] w fun e w' => e = .returned (.int .u32 (rot x n)) ∧ w' = w := by
  have hr := (show Hid _ from rot_or x n hx)
  rcases hn with rfl | rfl | rfl | rfl | rfl | rfl | rfl | rfl | rfl | rfl
  · have h1 : bits .and .u64 (IntKind.u64.wrap (-2)) 31 = 30 := by decide +kernel
    rw [show (-((2 : Nat) : Int)) = -2 from rfl]
    go_enter Tryd.func38, Tryd.ntmps38
    go_wp2_with fail
    go_ret
    refine ⟨?_, rfl⟩
    rw [← hr.out]
    rfl
  · have h1 : bits .and .u64 (IntKind.u64.wrap (-6)) 31 = 26 := by decide +kernel
    rw [show (-((6 : Nat) : Int)) = -6 from rfl]
    go_enter Tryd.func38, Tryd.ntmps38
    go_wp2_with fail
    go_ret
    refine ⟨?_, rfl⟩
    rw [← hr.out]
    rfl
  · have h1 : bits .and .u64 (IntKind.u64.wrap (-7)) 31 = 25 := by decide +kernel
    rw [show (-((7 : Nat) : Int)) = -7 from rfl]
    go_enter Tryd.func38, Tryd.ntmps38
    go_wp2_with fail
    go_ret
    refine ⟨?_, rfl⟩
    rw [← hr.out]
    rfl
  · have h1 : bits .and .u64 (IntKind.u64.wrap (-11)) 31 = 21 := by decide +kernel
    rw [show (-((11 : Nat) : Int)) = -11 from rfl]
    go_enter Tryd.func38, Tryd.ntmps38
    go_wp2_with fail
    go_ret
    refine ⟨?_, rfl⟩
    rw [← hr.out]
    rfl
  · have h1 : bits .and .u64 (IntKind.u64.wrap (-13)) 31 = 19 := by decide +kernel
    rw [show (-((13 : Nat) : Int)) = -13 from rfl]
    go_enter Tryd.func38, Tryd.ntmps38
    go_wp2_with fail
    go_ret
    refine ⟨?_, rfl⟩
    rw [← hr.out]
    rfl
  · have h1 : bits .and .u64 (IntKind.u64.wrap (-17)) 31 = 15 := by decide +kernel
    rw [show (-((17 : Nat) : Int)) = -17 from rfl]
    go_enter Tryd.func38, Tryd.ntmps38
    go_wp2_with fail
    go_ret
    refine ⟨?_, rfl⟩
    rw [← hr.out]
    rfl
  · have h1 : bits .and .u64 (IntKind.u64.wrap (-18)) 31 = 14 := by decide +kernel
    rw [show (-((18 : Nat) : Int)) = -18 from rfl]
    go_enter Tryd.func38, Tryd.ntmps38
    go_wp2_with fail
    go_ret
    refine ⟨?_, rfl⟩
    rw [← hr.out]
    rfl
  · have h1 : bits .and .u64 (IntKind.u64.wrap (-19)) 31 = 13 := by decide +kernel
    rw [show (-((19 : Nat) : Int)) = -19 from rfl]
    go_enter Tryd.func38, Tryd.ntmps38
    go_wp2_with fail
    go_ret
    refine ⟨?_, rfl⟩
    rw [← hr.out]
    rfl
  · have h1 : bits .and .u64 (IntKind.u64.wrap (-22)) 31 = 10 := by decide +kernel
    rw [show (-((22 : Nat) : Int)) = -22 from rfl]
    go_enter Tryd.func38, Tryd.ntmps38
    go_wp2_with fail
    go_ret
    refine ⟨?_, rfl⟩
    rw [← hr.out]
    rfl
  · have h1 : bits .and .u64 (IntKind.u64.wrap (-25)) 31 = 7 := by decide +kernel
    rw [show (-((25 : Nat) : Int)) = -25 from rfl]
    go_enter Tryd.func38, Tryd.ntmps38
    go_wp2_with fail
    go_ret
    refine ⟨?_, rfl⟩
    rw [← hr.out]
    rfl
theorem turned_ok (x n : Nat) (N : Int) (hN : N = n) (w : World) (hx : x < 4294967296) (hn : Turn n) :
    Calls Tryd.prog 36 #[.int .u32 x, .int .i64 N] w fun e w' => e = .returned (.int .u32 (rot x n)) ∧ w' = w := by
  subst hN
  have h2 : n ≤ 25 := by unfold Turn at hn; omega
  have HN := (show Hid _ from hn)
  clear hn
  go_enter Tryd.func36, Tryd.ntmps36
  go_wp2_with (go_at_call 38; refine (rotl_ok x n _ hx HN.out).mono ?_; rintro e w1 ⟨rfl, rfl⟩)
  go_ret
  exact ⟨rfl, rfl⟩
/-- four bytes as a word -/
def wd4 (a b c d : Nat) : Nat := a * 16777216 + b * 65536 + c * 256 + d
theorem or_add (a k b : Nat) (h : b < 2 ^ k) : a * 2 ^ k ||| b = a * 2 ^ k + b := by
  have := Nat.shiftLeft_add_eq_or_of_lt h a
  rw [Nat.shiftLeft_eq] at this
  exact this.symm
theorem wd4_or (a b c d : Nat) (ha : a < 256) (hb : b < 256) (hc : c < 256) (hd : d < 256) :
    bits .or .u32 ((a : Int) * 16777216) ((b : Int) * 65536) = ((a * 16777216 + b * 65536 : Nat) : Int) ∧ bits .or .u32 ((a * 16777216 + b * 65536 : Nat) : Int) ((c : Int) * 256) = ((a * 16777216 + b * 65536 + c * 256 : Nat) : Int) ∧
      bits .or .u32 ((a * 16777216 + b * 65536 + c * 256 : Nat) : Int) (d : Int) = ((wd4 a b c d : Nat) : Int) := by
  refine ⟨?_, ?_, ?_⟩
  · have := u32_or_nat (a * 16777216) (b * 65536) (by omega) (by omega)
    rw [or_add a 24 (b * 65536) (by omega)] at this
    rw [← this]
    congr 1
  · have := u32_or_nat (a * 16777216 + b * 65536) (c * 256) (by omega) (by omega)
    rw [show a * 16777216 + b * 65536 = (a * 256 + b) * 2 ^ 16 by omega, or_add _ 16 (c * 256) (by omega)] at this
    rw [show a * 16777216 + b * 65536 + c * 256 = (a * 256 + b) * 2 ^ 16 + c * 256 by omega, show a * 16777216 + b * 65536 = (a * 256 + b) * 2 ^ 16 by omega, ← this]
    congr 1
  · have := u32_or_nat (a * 16777216 + b * 65536 + c * 256) d (by omega) (by omega)
    rw [show a * 16777216 + b * 65536 + c * 256 = (a * 65536 + b * 256 + c) * 2 ^ 8 by omega, or_add _ 8 d (by omega)] at this
    rw [wd4, show a * 16777216 + b * 65536 + c * 256 = (a * 65536 + b * 256 + c) * 2 ^ 8 by omega, ← this]
theorem wd4_lt {a b c d : Nat} (ha : a < 256) (hb : b < 256) (hc : c < 256) (hd : d < 256) : wd4 a b c d < 4294967296 := by unfold wd4; omega
set_option maxRecDepth 100000 in
theorem word_ok (v : Value) (bs : List Nat) (w : World) (h : Bs w v bs) (hl : 4 ≤ bs.length) :
    Calls Tryd.prog 35 #[v] w fun e w' => e = .returned (.int .u32 (wd4 (bs.getD 0 0) (bs.getD 1 0) (bs.getD 2 0) (bs.getD 3 0))) ∧ Below w.heap.size w w' := by
  obtain ⟨hby, a, c, rfl, hlc, hc9, hno, hx⟩ := h
  obtain ⟨b, off, rfl, hb, hc⟩ := hx (by omega)
  have c0 := hc 0 (by omega)
  have c1 := hc 1 (by omega)
  have c2 := hc 2 (by omega)
  have c3 := hc 3 (by omega)
  have b0 := bt_bd hby 0
  have b1 := bt_bd hby 1
  have b2 := bt_bd hby 2
  have b3 := bt_bd hby 3
  unfold bt at c0 c1 c2 c3 b0 b1 b2 b3
  generalize bs.getD 0 0 = x0 at *
  generalize bs.getD 1 0 = x1 at *
  generalize bs.getD 2 0 = x2 at *
  generalize bs.getD 3 0 = x3 at *
  rw [Nat.add_zero] at c0
  obtain ⟨o1, o2, o3⟩ := wd4_or x0 x1 x2 x3 (by omega) (by omega) (by omega) (by omega)
  rw [show ((x0 * 16777216 + x1 * 65536 : Nat) : Int) = (x0 : Int) * 16777216 + (x1 : Int) * 65536 by omega] at o1 o2
  rw [show ((x0 * 16777216 + x1 * 65536 + x2 * 256 : Nat) : Int) = (x0 : Int) * 16777216 + (x1 : Int) * 65536 + (x2 : Int) * 256 by omega] at o2 o3
  generalize bs.length = L at *
  clear hc hx hno hby
  go_enter Tryd.func35, Tryd.ntmps35
  go_wp2_with fail
  go_quiet (fail)
  go_wp2_with fail
  go_ret
  exact ⟨rfl, bel_drewN (Below.refl _ _) _⟩
end Go.Proofs.YtbgmepepcdpkfaaDoor
