/- Arrays in a block of their own, known whole: loads and stores of all of it; the contracts of turned, word, turns. -/
import Derived.Test.YtkmdegmpffgplaaGreatDoorLay
import Derived.Laws.Rows
import Derived.Laws.Tables
import Derived.BigQuiet
import Derived.Deep.RegionHeld3
import Derived.Deep.DeepCutAuto
namespace Go.Proofs.YtkmdegmpffgplaaGreatDoor.pk
open Go.RowKit
set_option linter.unusedVariables false

theorem bel_drewN {B : Nat} {a w : World} (h : Below B a w) (n : Nat) : Below B a (w.drewN n) := ⟨h.os, h.tape, h.output, h.size, h.block⟩
/-- words as cells -/
def cw (xs : List Nat) : List Value := xs.map fun (d : Nat) => Value.int .u32 (d : Int)
theorem cw_len (xs : List Nat) : (cw xs).length = xs.length := by simp [cw]
theorem cw_get (xs : List Nat) (k : Nat) (h : k < xs.length) : (cw xs)[k]? = some (.int .u32 ((xs.getD k 0 : Nat) : Int)) := by simp [cw, h]
theorem cw_one {xs : List Nat} {u : Value} (h : u ∈ cw xs) : u.oneCell' = true := by
  obtain ⟨x, _, rfl⟩ := List.mem_map.1 h; rfl
theorem cw_set (xs : List Nat) (k d : Nat) : cw (xs.set k d) = (cw xs).set k (.int .u32 (d : Int)) := by simp [cw, List.map_set]
theorem cl_set (xs : List Nat) (k d : Nat) : cl (xs.set k d) = (cl xs).set k (.int .u8 (d : Int)) := by simp [cl, List.map_set]
/-- a block known whole -/
structure VA (w : World) (p : Nat) (cs : List Value) (T : TypeId) : Prop where
  blk : w.heap[p]? = some (.cells cs.toArray T (0, 0))
theorem VA.lt {w : World} {p : Nat} {cs : List Value} {T : TypeId} (h : VA w p cs T) : p < w.heap.size := by
  rcases Nat.lt_or_ge p w.heap.size with hlt | hge
  · exact hlt
  · have := h.blk; rw [Array.getElem?_eq_none hge] at this; cases this
theorem VA.cell {w : World} {p : Nat} {cs : List Value} {T : TypeId} (h : VA w p cs T) (k : Nat) {v : Value} (hv : cs[k]? = some v) : w.cell? ⟨p, k, none⟩ = some v := by
  rw [cell_of_row w p k _ _ _ h.blk]; simpa using hv
theorem VA.free {w : World} {p : Nat} {cs : List Value} {T : TypeId} (h : VA w p cs T) (k : Nat) : w.frozen? ⟨p, k, none⟩ = false := frozen_of_row w p k _ _ h.blk
theorem VA.step {w w' : World} {p : Nat} {cs : List Value} {T : TypeId} (h : VA w p cs T) (k : Below w.heap.size w w') : VA w' p cs T := ⟨by rw [k.block p h.lt]; exact h.blk⟩
theorem VA.alloc {w : World} {p : Nat} {cs : List Value} {T : TypeId} (h : VA w p cs T) (o : Obj) : VA (w.alloc o) p cs T := h.step ((Below.refl _ _).alloc (Nat.le_refl _) o)
theorem VA.drew {w : World} {p : Nat} {cs : List Value} {T : TypeId} (h : VA w p cs T) : VA w.drew p cs T := ⟨h.blk⟩
theorem VA.drewN {w : World} {p : Nat} {cs : List Value} {T : TypeId} (h : VA w p cs T) (n : Nat) : VA (w.drewN n) p cs T := ⟨h.blk⟩
theorem va_new (w : World) (cs : List Value) (T : TypeId) : VA (w.alloc (.cells cs.toArray T)) w.heap.size cs T := ⟨Go.heap_alloc_new w _⟩
theorem VA.set {w : World} {p : Nat} {cs : List Value} {T : TypeId} (h : VA w p cs T) (k : Nat) (u : Value) : VA (w.setCell ⟨p, k, none⟩ u) p (cs.set k u) T := ⟨by rw [Go.heap_setCell_same w p k _ _ u h.blk]; simp⟩
theorem VA.set_other {w : World} {p q : Nat} {cs : List Value} {T : TypeId} (h : VA w p cs T) (hq : p ≠ q) (k : Nat) (u : Value) : VA (w.setCell ⟨q, k, none⟩ u) p cs T := ⟨by rw [Go.heap_setCell_other w _ p u hq]; exact h.blk⟩
/-- only the block p is another -/
structure Upd (p : Nat) (w w' : World) : Prop where
  os : w'.os = w.os
  tape : w'.tape = w.tape
  output : w'.output = w.output
  size : w'.heap.size = w.heap.size
  block : ∀ k, k ≠ p → w'.heap[k]? = w.heap[k]?
theorem VA.upd {w w' : World} {p q : Nat} {cs : List Value} {T : TypeId} (h : VA w q cs T) (k : Upd p w w') (hq : q ≠ p) : VA w' q cs T := ⟨by rw [k.block q hq]; exact h.blk⟩
theorem Upd.bel {p B : Nat} {w0 w w' : World} (k : Upd p w w') (h : Below B w0 w) (hp : B ≤ p) : Below B w0 w' :=
  ⟨k.os.trans h.os, k.tape.trans h.tape, k.output.trans h.output, by rw [k.size]; exact h.size, fun b hb => (k.block b (by omega)).trans (h.block b hb)⟩
theorem upd_setRow (w : World) (p : Nat) (cs : Array Value) : Upd p w (w.setRow p cs) :=
  ⟨rfl, rfl, rfl, by simp, fun k hk => by simp only [World.setRow, Array.getElem?_modify]; rw [if_neg (fun e => hk e.symm)]⟩
/-- all of an array is loaded -/
theorem ldA {w : World} {ops : Array Oper} {rest : List Oper} {o : Oper} {a : Act} {Q : Exit → Act → World → Prop} (hgd : o.guard = none) (t : TypeId) (x : Operand) (ho : o.op = .load t x)
    (p : Nat) (hx : a.eval x = .pointer (some ⟨p, 0, none⟩)) (cs : List Value) (T : TypeId) (h : VA w p cs T) (n : Nat) (e : TypeId) (hu : Tryz.prog.underlying t = some (.array n e)) (hi : (Tryz.prog.info? t).map (·.size) = some cs.length)
    (k : wpList Tryz.prog ops Q rest (a.put o.dst (.agg cs.toArray)) w) : wpList Tryz.prog ops Q (o :: rest) a w := by
  refine wpList_plain hgd fun K hK' => ?_
  have hrun := run_loadVar_row (P := Tryz.prog) w p T t cs.toArray (0, 0) _ h.blk hu rfl (by simpa using hi)
  unfold Oper.wp execOp
  simp only [ho, hx, Instr.loadAt, Instr.sureAddr, Sem.run_bind, Sem.run_pure, Result.andThen_ok, hrun]
  exact hK' _ _ k
/-- all of an array is stored -/
theorem stA {w : World} {ops : Array Oper} {rest : List Oper} {o : Oper} {a : Act} {Q : Exit → Act → World → Prop} (hgd : o.guard = none) (t : TypeId) (x y : Operand) (ho : o.op = .store t x y)
    (p : Nat) (hx : a.eval x = .pointer (some ⟨p, 0, none⟩)) (cs ds : List Value) (hy : a.eval y = .agg ds.toArray) (T : TypeId) (h : VA w p cs T) (hi : (Tryz.prog.info? t).map (·.size) = some ds.length) (hl : cs.length = ds.length) (h1 : ∀ v ∈ ds, v.oneCell' = true)
    (k : ∀ w', VA w' p ds T → Upd p w w' → wpList Tryz.prog ops Q rest (a.put o.dst undef) w') : wpList Tryz.prog ops Q (o :: rest) a w := by
  refine wpList_plain hgd fun K hK' => ?_
  have hrun := run_storeVar_row (P := Tryz.prog) w p T t cs.toArray ds.toArray h.blk (by simpa using hi) (by simpa using hl) (Array.all_eq_true_iff_forall_mem.2 (fun v hv => h1 v (by simpa using hv)))
  unfold Oper.wp execOp
  simp only [ho, hx, hy, Instr.storeAt, Instr.sureAddr, Sem.run_bind, Sem.run_pure, Result.andThen_ok, hrun]
  exact hK' _ _ (k _ ⟨setRow_heap w p _ _ _ _ h.blk⟩ (upd_setRow w p _))
/-- turned right by n bits -/
def rot (x n : Nat) : Nat := x * 2 ^ (32 - n) % 4294967296 ||| x / 2 ^ n
theorem rot_lt {x n : Nat} (h : x < 4294967296) : rot x n < 4294967296 := by
  refine Nat.or_lt_two_pow (n := 32) (Nat.mod_lt _ (by omega)) ?_
  have := Nat.div_le_self x (2 ^ n)
  omega
theorem rot_or (x n : Nat) (h : x < 4294967296) : bits .or .u32 ((x : Int) * ((2 ^ (32 - n) : Nat) : Int) % 4294967296) ((x : Int) / ((2 ^ n : Nat) : Int)) = ((rot x n : Nat) : Int) := by
  have := u32_or_nat (x * 2 ^ (32 - n) % 4294967296) (x / 2 ^ n) (Nat.mod_lt _ (by omega)) (by have := Nat.div_le_self x (2 ^ n); omega)
  rw [← show ((x * 2 ^ (32 - n) % 4294967296 : Nat) : Int) = (x : Int) * ((2 ^ (32 - n) : Nat) : Int) % 4294967296 by rw [Int.natCast_emod, Int.natCast_mul]; rfl, ← show ((x / 2 ^ n : Nat) : Int) = (x : Int) / ((2 ^ n : Nat) : Int) by rw [Int.natCast_ediv]]
  exact this
def Turn (n : Nat) : Prop := n = 2 ∨ n = 6 ∨ n = 7 ∨ n = 11 ∨ n = 13 ∨ n = 17 ∨ n = 18 ∨ n = 19 ∨ n = 22 ∨ n = 25
theorem rotl_ok (x n : Nat) (w : World) (hx : x < 4294967296) (hn : Turn n) :
    Calls Tryz.prog 144 #[.int .u32 x, .int .i64 (-(n : Int))] w fun e w' => e = .returned (.int .u32 (rot x n)) ∧ w' = w := by
  have hr := (show Hid _ from rot_or x n hx)
  rcases hn with rfl | rfl | rfl | rfl | rfl | rfl | rfl | rfl | rfl | rfl
  · have h1 : bits .and .u64 (IntKind.u64.wrap (-2)) 31 = 30 := by decide +kernel
    rw [show (-((2 : Nat) : Int)) = -2 from rfl]
    go_enter Tryz.func144, Tryz.ntmps144
    go_wp2_with fail
    go_ret
    refine ⟨?_, rfl⟩
    rw [← hr.out]
    rfl
  · have h1 : bits .and .u64 (IntKind.u64.wrap (-6)) 31 = 26 := by decide +kernel
    rw [show (-((6 : Nat) : Int)) = -6 from rfl]
    go_enter Tryz.func144, Tryz.ntmps144
    go_wp2_with fail
    go_ret
    refine ⟨?_, rfl⟩
    rw [← hr.out]
    rfl
  · have h1 : bits .and .u64 (IntKind.u64.wrap (-7)) 31 = 25 := by decide +kernel
    rw [show (-((7 : Nat) : Int)) = -7 from rfl]
    go_enter Tryz.func144, Tryz.ntmps144
    go_wp2_with fail
    go_ret
    refine ⟨?_, rfl⟩
    rw [← hr.out]
    rfl
  · have h1 : bits .and .u64 (IntKind.u64.wrap (-11)) 31 = 21 := by decide +kernel
    rw [show (-((11 : Nat) : Int)) = -11 from rfl]
    go_enter Tryz.func144, Tryz.ntmps144
    go_wp2_with fail
    go_ret
    refine ⟨?_, rfl⟩
    rw [← hr.out]
    rfl
  · have h1 : bits .and .u64 (IntKind.u64.wrap (-13)) 31 = 19 := by decide +kernel
    rw [show (-((13 : Nat) : Int)) = -13 from rfl]
    go_enter Tryz.func144, Tryz.ntmps144
    go_wp2_with fail
    go_ret
    refine ⟨?_, rfl⟩
    rw [← hr.out]
    rfl
  · have h1 : bits .and .u64 (IntKind.u64.wrap (-17)) 31 = 15 := by decide +kernel
    rw [show (-((17 : Nat) : Int)) = -17 from rfl]
    go_enter Tryz.func144, Tryz.ntmps144
    go_wp2_with fail
    go_ret
    refine ⟨?_, rfl⟩
    rw [← hr.out]
    rfl
  · have h1 : bits .and .u64 (IntKind.u64.wrap (-18)) 31 = 14 := by decide +kernel
    rw [show (-((18 : Nat) : Int)) = -18 from rfl]
    go_enter Tryz.func144, Tryz.ntmps144
    go_wp2_with fail
    go_ret
    refine ⟨?_, rfl⟩
    rw [← hr.out]
    rfl
  · have h1 : bits .and .u64 (IntKind.u64.wrap (-19)) 31 = 13 := by decide +kernel
    rw [show (-((19 : Nat) : Int)) = -19 from rfl]
    go_enter Tryz.func144, Tryz.ntmps144
    go_wp2_with fail
    go_ret
    refine ⟨?_, rfl⟩
    rw [← hr.out]
    rfl
  · have h1 : bits .and .u64 (IntKind.u64.wrap (-22)) 31 = 10 := by decide +kernel
    rw [show (-((22 : Nat) : Int)) = -22 from rfl]
    go_enter Tryz.func144, Tryz.ntmps144
    go_wp2_with fail
    go_ret
    refine ⟨?_, rfl⟩
    rw [← hr.out]
    rfl
  · have h1 : bits .and .u64 (IntKind.u64.wrap (-25)) 31 = 7 := by decide +kernel
    rw [show (-((25 : Nat) : Int)) = -25 from rfl]
    go_enter Tryz.func144, Tryz.ntmps144
    go_wp2_with fail
    go_ret
    refine ⟨?_, rfl⟩
    rw [← hr.out]
    rfl
theorem turned_ok (x n : Nat) (N : Int) (hN : N = n) (w : World) (hx : x < 4294967296) (hn : Turn n) :
    Calls Tryz.prog 129 #[.int .u32 x, .int .i64 N] w fun e w' => e = .returned (.int .u32 (rot x n)) ∧ w' = w := by
  subst hN
  have h2 : n ≤ 25 := by unfold Turn at hn; omega
  have HN := (show Hid _ from hn)
  clear hn
  go_enter Tryz.func129, Tryz.ntmps129
  go_wp2_with (go_at_call 144; refine (rotl_ok x n _ hx HN.out).mono ?_; rintro e w1 ⟨rfl, rfl⟩)
  go_ret
  exact ⟨rfl, rfl⟩
/-- four bytes as a word -/
def wd4 (a b c d : Nat) : Nat := a * 16777216 + b * 65536 + c * 256 + d
theorem or_add (a k b : Nat) (h : b < 2 ^ k) : a * 2 ^ k ||| b = a * 2 ^ k + b := by
  have := Nat.shiftLeft_add_eq_or_of_lt h a
  rw [Nat.shiftLeft_eq] at this
  exact this.symm
theorem wd4_or (a b c d : Nat) (ha : a < 256) (hb : b < 256) (hc : c < 256) (hd : d < 256) :
    bits .or .u32 ((a : Int) * 16777216) ((b : Int) * 65536) = ((a * 16777216 + b * 65536 : Nat) : Int) ∧ bits .or .u32 ((a * 16777216 + b * 65536 : Nat) : Int) ((c : Int) * 256) = ((a * 16777216 + b * 65536 + c * 256 : Nat) : Int) ∧
      bits .or .u32 ((a * 16777216 + b * 65536 + c * 256 : Nat) : Int) (d : Int) = ((wd4 a b c d : Nat) : Int) := by
  refine ⟨?_, ?_, ?_⟩
  · have := u32_or_nat (a * 16777216) (b * 65536) (by omega) (by omega)
    rw [or_add a 24 (b * 65536) (by omega)] at this
    rw [← this]
    congr 1
  · have := u32_or_nat (a * 16777216 + b * 65536) (c * 256) (by omega) (by omega)
    rw [show a * 16777216 + b * 65536 = (a * 256 + b) * 2 ^ 16 by omega, or_add _ 16 (c * 256) (by omega)] at this
    rw [show a * 16777216 + b * 65536 + c * 256 = (a * 256 + b) * 2 ^ 16 + c * 256 by omega, show a * 16777216 + b * 65536 = (a * 256 + b) * 2 ^ 16 by omega, ← this]
    congr 1
  · have := u32_or_nat (a * 16777216 + b * 65536 + c * 256) d (by omega) (by omega)
    rw [show a * 16777216 + b * 65536 + c * 256 = (a * 65536 + b * 256 + c) * 2 ^ 8 by omega, or_add _ 8 d (by omega)] at this
    rw [wd4, show a * 16777216 + b * 65536 + c * 256 = (a * 65536 + b * 256 + c) * 2 ^ 8 by omega, ← this]
theorem wd4_lt {a b c d : Nat} (ha : a < 256) (hb : b < 256) (hc : c < 256) (hd : d < 256) : wd4 a b c d < 4294967296 := by unfold wd4; omega
set_option maxRecDepth 100000 in
theorem word_ok (v : Value) (bs : List Nat) (w : World) (h : Bs w v bs) (hl : 4 ≤ bs.length) :
    Calls Tryz.prog 128 #[v] w fun e w' => e = .returned (.int .u32 (wd4 (bs.getD 0 0) (bs.getD 1 0) (bs.getD 2 0) (bs.getD 3 0))) ∧ Below w.heap.size w w' := by
  obtain ⟨hby, a, c, rfl, hlc, hc9, hno, hx⟩ := h
  obtain ⟨b, off, rfl, hb, hc⟩ := hx (by omega)
  have c0 := hc 0 (by omega)
  have c1 := hc 1 (by omega)
  have c2 := hc 2 (by omega)
  have c3 := hc 3 (by omega)
  have b0 := bt_bd hby 0
  have b1 := bt_bd hby 1
  have b2 := bt_bd hby 2
  have b3 := bt_bd hby 3
  unfold bt at c0 c1 c2 c3 b0 b1 b2 b3
  generalize bs.getD 0 0 = x0 at *
  generalize bs.getD 1 0 = x1 at *
  generalize bs.getD 2 0 = x2 at *
  generalize bs.getD 3 0 = x3 at *
  rw [Nat.add_zero] at c0
  obtain ⟨o1, o2, o3⟩ := wd4_or x0 x1 x2 x3 (by omega) (by omega) (by omega) (by omega)
  rw [show ((x0 * 16777216 + x1 * 65536 : Nat) : Int) = (x0 : Int) * 16777216 + (x1 : Int) * 65536 by omega] at o1 o2
  rw [show ((x0 * 16777216 + x1 * 65536 + x2 * 256 : Nat) : Int) = (x0 : Int) * 16777216 + (x1 : Int) * 65536 + (x2 : Int) * 256 by omega] at o2 o3
  generalize bs.length = L at *
  clear hc hx hno hby
  go_enter Tryz.func128, Tryz.ntmps128
  go_wp2_with fail
  go_quiet (fail)
  go_wp2_with fail
  go_ret
  exact ⟨rfl, bel_drewN (Below.refl _ _) _⟩
end Go.Proofs.YtkmdegmpffgplaaGreatDoor.pk
/- sum: the contracts of turns and schedule. -/
namespace Go.Proofs.YtkmdegmpffgplaaGreatDoor.pk
open Go.RowKit
set_option linter.unusedVariables false

def S1 (e : Nat) : Nat := rot e 6 ^^^ rot e 11 ^^^ rot e 25
def S0 (a : Nat) : Nat := rot a 2 ^^^ rot a 13 ^^^ rot a 22
def Ch (e f g : Nat) : Nat := (e &&& f) ^^^ ((4294967295 - e) &&& g)
def Mj (a b c : Nat) : Nat := (a &&& b) ^^^ (a &&& c) ^^^ (b &&& c)
def T1 (h e f g more : Nat) : Nat := (h + S1 e + Ch e f g + more) % 4294967296
def T2 (a b c : Nat) : Nat := (S0 a + Mj a b c) % 4294967296
theorem and32 {a b : Nat} (h : a < 4294967296) : a &&& b < 4294967296 := Nat.lt_of_le_of_lt Nat.and_le_left h
/-- eight words -/
structure W8 (ss : List Nat) : Prop where
  len : ss.length = 8
  small : ∀ x ∈ ss, x < 4294967296
theorem getD_small {ss : List Nat} (h : ∀ x ∈ ss, x < 4294967296) (k : Nat) : ss.getD k 0 < 4294967296 := by
  by_cases hk : k < ss.length
  · have := h (ss.getD k 0) (by simp [hk])
    exact this
  · simp [List.getD, List.getElem?_eq_none (Nat.le_of_not_lt hk)]
theorem W8.at {ss : List Nat} (h : W8 ss) (k : Nat) : ss.getD k 0 < 4294967296 := getD_small h.small k
def TT1 (ss : List Nat) (more : Nat) : Nat := T1 (ss.getD 7 0) (ss.getD 4 0) (ss.getD 5 0) (ss.getD 6 0) more
def TT2 (ss : List Nat) : Nat := T2 (ss.getD 0 0) (ss.getD 1 0) (ss.getD 2 0)
theorem info43 : (Tryz.prog.info? 145).map (·.size) = some 8 := by kernel_rfl
theorem xor_max (e : Nat) (h : e < 4294967296) : bits .xor .u32 IntKind.u32.max (e : Int) = ((4294967295 - e : Nat) : Int) := by
  have h1 := u32_xor_nat 4294967295 e (by omega) h
  rw [show IntKind.u32.max = ((4294967295 : Nat) : Int) from rfl, h1]
  congr 1
  have h2 : (BitVec.allOnes 32 ^^^ BitVec.ofNat 32 e) = ~~~ (BitVec.ofNat 32 e) := BitVec.allOnes_xor
  have h3 := congrArg BitVec.toNat h2
  rw [BitVec.toNat_xor, BitVec.toNat_not, BitVec.toNat_allOnes, BitVec.toNat_ofNat, Nat.mod_eq_of_lt (by simpa using h)] at h3
  exact h3
set_option maxHeartbeats 1000000 in
set_option maxRecDepth 100000 in
theorem turns_ok (ss : List Nat) (m : Nat) (w : World) (h : W8 ss) (hm : m < 4294967296) :
    Calls Tryz.prog 108 #[.agg (cw ss).toArray, .int .u32 m] w fun e w' => e = .returned (.tuple #[.int .u32 (TT1 ss m), .int .u32 (TT2 ss)]) ∧ Below w.heap.size w w' := by
  have HT1 : Hid (TT1 ss m = T1 (ss.getD 7 0) (ss.getD 4 0) (ss.getD 5 0) (ss.getD 6 0) m) := rfl
  have HT2 : Hid (TT2 ss = T2 (ss.getD 0 0) (ss.getD 1 0) (ss.getD 2 0)) := rfl
  have H0 := h.at 0
  have H1 := h.at 1
  have H2 := h.at 2
  have H4 := h.at 4
  have H5 := h.at 5
  have H6 := h.at 6
  have H7 := h.at 7
  have HL := h.len
  have V := va_new w (cw ss) 145
  have c0 := V.cell 0 (cw_get ss 0 (by omega))
  have c1 := V.cell 1 (cw_get ss 1 (by omega))
  have c2 := V.cell 2 (cw_get ss 2 (by omega))
  have c4 := V.cell 4 (cw_get ss 4 (by omega))
  have c5 := V.cell 5 (cw_get ss 5 (by omega))
  have c6 := V.cell 6 (cw_get ss 6 (by omega))
  have c7 := V.cell 7 (cw_get ss 7 (by omega))
  have B := (show Hid _ from (Below.refl w.heap.size w).alloc (Nat.le_refl _) (.cells (cw ss).toArray 145))
  unfold TT1 TT2
  clear V HT1 HT2 h HL
  generalize ss.getD 0 0 = a at *
  generalize ss.getD 1 0 = b at *
  generalize ss.getD 2 0 = c at *
  generalize ss.getD 4 0 = e at *
  generalize ss.getD 5 0 = f at *
  generalize ss.getD 6 0 = g at *
  generalize ss.getD 7 0 = z at *
  have r1 := rot_lt (n := 6) H4
  have r2 := rot_lt (n := 11) H4
  have r3 := rot_lt (n := 25) H4
  have q1 := rot_lt (n := 2) H0
  have q2 := rot_lt (n := 13) H0
  have q3 := rot_lt (n := 22) H0
  have x1 := u32_xor_nat (rot e 6) (rot e 11) r1 r2
  have x2 := u32_xor_nat (rot e 6 ^^^ rot e 11) (rot e 25) (x32 r1 r2) r3
  have x3 := u32_xor_nat (rot a 2) (rot a 13) q1 q2
  have x4 := u32_xor_nat (rot a 2 ^^^ rot a 13) (rot a 22) (x32 q1 q2) q3
  have z1 := xor_max e H4
  have n1 := u32_and_nat e f H4 H5
  have n2 := u32_and_nat (4294967295 - e) g (by omega) H6
  have n3 := u32_and_nat a b H0 H1
  have n4 := u32_and_nat a c H0 H2
  have n5 := u32_and_nat b c H1 H2
  have y1 := u32_xor_nat (e &&& f) ((4294967295 - e) &&& g) (and32 H4) (and32 (by omega))
  have y2 := u32_xor_nat (a &&& b) (a &&& c) (and32 H0) (and32 H0)
  have y3 := u32_xor_nat ((a &&& b) ^^^ (a &&& c)) (b &&& c) (x32 (and32 H0) (and32 H0)) (and32 H1)
  go_enter Tryz.func108, Tryz.ntmps108
  go_wp2_with fail
  generalize w.alloc (.cells (cw ss).toArray 145) = w1 at *
  go_quiet (fail)
  go_wp2_with fail
  refine (turned_ok e 6 _ rfl _ H4 (by unfold Turn; omega)).mono ?_
  rintro e1 w2 ⟨rfl, rfl⟩
  go_wp2_with fail
  refine (turned_ok e 11 _ rfl _ H4 (by unfold Turn; omega)).mono ?_
  rintro e1 w2 ⟨rfl, rfl⟩
  go_wp2_with fail
  refine (turned_ok e 25 _ rfl _ H4 (by unfold Turn; omega)).mono ?_
  rintro e1 w2 ⟨rfl, rfl⟩
  go_wp2_with fail
  refine (turned_ok a 2 _ rfl _ H0 (by unfold Turn; omega)).mono ?_
  rintro e1 w2 ⟨rfl, rfl⟩
  go_wp2_with fail
  refine (turned_ok a 13 _ rfl _ H0 (by unfold Turn; omega)).mono ?_
  rintro e1 w2 ⟨rfl, rfl⟩
  go_wp2_with fail
  refine (turned_ok a 22 _ rfl _ H0 (by unfold Turn; omega)).mono ?_
  rintro e1 w2 ⟨rfl, rfl⟩
  go_wp2_with fail
  go_ret2
  refine ⟨?_, bel_drewN B.out _⟩
  unfold T1 T2 S1 S0 Ch Mj
  simp only [Array.getD]
  rfl
end Go.Proofs.YtkmdegmpffgplaaGreatDoor.pk
