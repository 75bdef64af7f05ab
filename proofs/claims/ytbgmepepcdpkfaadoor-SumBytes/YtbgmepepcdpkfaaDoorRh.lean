/- sum: the document's Sha: words of 64 bits in rows; what its steps come to. -/
import Derived.Test.YtbgmepepcdpkfaaDoorRf
import Derived.Laws.Bits64
import Derived.Laws.Bits64b
namespace Go.Proofs.YtbgmepepcdpkfaaDoor
open Go.RowKit
set_option linter.unusedVariables false

def cq (xs : List Nat) : List Value := xs.map fun (d : Nat) => Value.int .u64 (d : Int)
theorem cq_len (xs : List Nat) : (cq xs).length = xs.length := by simp [cq]
theorem cq_get (xs : List Nat) (k : Nat) (h : k < xs.length) : (cq xs)[k]? = some (.int .u64 ((xs.getD k 0 : Nat) : Int)) := by simp [cq, h]
theorem cq_set (xs : List Nat) (k d : Nat) : cq (xs.set k d) = (cq xs).set k (.int .u64 (d : Int)) := by simp [cq, List.map_set]
theorem info41 : (Tryd.prog.info? 41).map (fun i => (i.zero, i.size, i.bytes)) = some (some (.int .u64 0), 1, 8) := by kernel_rfl
theorem info41_parts : ∃ i, Tryd.prog.info? 41 = some i ∧ i.zero = some (.int .u64 0) ∧ i.size = 1 ∧ i.bytes = 8 := by
  obtain ⟨i, hi, hz⟩ := Option.map_eq_some_iff.1 info41
  simp only [Prod.mk.injEq] at hz
  exact ⟨i, hi, hz.1, hz.2.1, hz.2.2⟩
/-- make([]uint64, 64) -/
theorem mkQ {w : World} {ops : Array Oper} {rest : List Oper} {o : Oper} {a : Act} {Q : Exit → Act → World → Prop} (hgd : o.guard = none) (l c : Operand) (ho : o.op = Op.makeSlice 47 l c)
    (hl : a.eval l = .int .i64 64) (hc : a.eval c = .int .i64 64)
    (h : ∀ w', VA w' w.heap.size (cq (List.replicate 64 0)) 41 → Below w.heap.size w w' → wpList Tryd.prog ops Q rest (a.put o.dst (.slice (some ⟨w.heap.size, 0, none⟩) 64 64)) w') :
    wpList Tryd.prog ops Q (o :: rest) a w := by
  obtain ⟨i0, hi, hz0, hz1, hz2⟩ := info41_parts
  refine wpList_plain hgd fun K hK' => ?_
  have hrun := run_make (P := Tryd.prog) w 47 41 i0 (.int .u64 0) Tryd.underlying47 hi hz0 .i64 .i64 64 64 (by omega) (by omega) (by rw [hz2]; omega) (by omega)
  unfold Oper.wp
  simp [execOp, ho, hl, hc, hrun, Result.andThen]
  refine hK' _ _ (h _ ⟨?_⟩ ((Below.refl _ _).alloc (Nat.le_refl _) _))
  rw [Go.heap_alloc_new, hz1]
  kernel_rfl
theorem OwnB.upd' {w w' : World} {B g n cap q : Nat} {cs : List Nat} (h : OwnB w B (.slice (some ⟨g, 0, none⟩) n cap) cs) (k : Upd q w w') (hq : g ≠ q) : OwnB w' B (.slice (some ⟨g, 0, none⟩) n cap) cs := by
  refine ⟨h.byte, h.own.1, ?_⟩
  rcases h.own.2 with h2 | ⟨g', cap', cur, e, hb, hg, r⟩
  · exact Or.inl h2
  · cases e
    exact Or.inr ⟨g, cap, cur, rfl, hb, (k.block g hq).trans hg, r⟩
theorem cell_ne {w : World} {W g k A : Nat} {u : Value} (h : g ≠ W) : (w.setCell ⟨W, k, none⟩ u).cell? ⟨g, A, none⟩ = w.cell? ⟨g, A, none⟩ := World.cell?_setCell_other _ _ _ _ (by intro e; simp only [Addr.mk.injEq] at e; exact h e.1.symm)
theorem upd_drewset {w : World} (W k : Nat) (u : Value) : Upd W w (w.drew.setCell ⟨W, k, none⟩ u) := by
  have k0 := upd_set w.drew W k u
  exact ⟨k0.os, k0.tape, k0.output, k0.size, k0.block⟩
theorem upd_setdrew {w : World} (W k : Nat) (u : Value) : Upd W w (w.setCell ⟨W, k, none⟩ u).drew := by
  have k0 := upd_set w W k u
  exact ⟨k0.os, k0.tape, k0.output, k0.size, k0.block⟩
theorem wrapU (n : Int) (h : 0 ≤ n ∧ n < 18446744073709551616) : IntKind.u64.wrap n = n := by
  simp [IntKind.wrap, IntKind.signed, IntKind.bits]
  omega
theorem wrapI (n : Int) (h : -9223372036854775808 ≤ n ∧ n ≤ 9223372036854775807) : IntKind.i64.wrap n = n := by
  simp [IntKind.wrap, IntKind.signed, IntKind.bits]
  omega
theorem fw_zero (bs : List Nat) : ∀ k j, k ≤ j → (fw bs k).getD j 0 = 0
  | 0, j, _ => by
    show (List.replicate 64 0).getD j 0 = 0
    rw [List.getD, List.getElem?_replicate]
    split <;> rfl
  | k + 1, j, h => by
    show ((fw bs k).set k (wdAt bs k)).getD j 0 = 0
    have := fw_zero bs k j (by omega)
    rw [List.getD, List.getElem?_set_ne (by omega)]
    exact this
theorem fw_at (bs : List Nat) (k : Nat) (hk : k < 64) : (fw bs k).set k 0 = fw bs k := by
  have h := fw_zero bs k k (Nat.le_refl _)
  have hl := fw_len bs k
  have : (fw bs k)[k]'(by omega) = 0 := by
    rw [List.getD, List.getElem?_eq_getElem (by omega)] at h
    simpa using h
  rw [← this]
  exact List.set_getElem_self _
/-- the words of the block, being read -/
def fwj (bs : List Nat) (k j : Nat) : List Nat := (fw bs k).set k (wdS bs k j)
theorem fwj_0 (bs : List Nat) (k : Nat) (hk : k < 64) : fwj bs k 0 = fw bs k := fw_at bs k hk
theorem fwj_4 (bs : List Nat) (k : Nat) : fwj bs k 4 = fw bs (k + 1) := by
  unfold fwj
  rw [wdS_4]
  rfl
theorem fwj_len (bs : List Nat) (k j : Nat) : (fwj bs k j).length = 64 := by unfold fwj; rw [List.length_set, fw_len]
theorem fwj_get (bs : List Nat) (k j : Nat) (hk : k < 64) : (fwj bs k j).getD k 0 = wdS bs k j := by
  unfold fwj
  simp [List.getD, fw_len, hk]
theorem fwj_set (bs : List Nat) (k j d : Nat) (hd : d = wdS bs k (j + 1)) : (fwj bs k j).set k d = fwj bs k (j + 1) := by
  subst hd
  unfold fwj
  rw [List.set_set]
theorem blk_get (tx : List Nat) (b i : Nat) (hi : i < 64) : ((tx.drop (64 * b)).take 64).getD i 0 = tx.getD (64 * b + i) 0 := by
  simp [List.getD, hi]
/-- all blocks but p are as they were; new ones may be there -/
structure Ex (p : Nat) (w w' : World) : Prop where
  os : w'.os = w.os
  tape : w'.tape = w.tape
  output : w'.output = w.output
  size : w.heap.size ≤ w'.heap.size
  block : ∀ k, k < w.heap.size → k ≠ p → w'.heap[k]? = w.heap[k]?
theorem Ex.refl (p : Nat) (w : World) : Ex p w w := ⟨rfl, rfl, rfl, Nat.le_refl _, fun _ _ _ => rfl⟩
theorem Ex.upd {p : Nat} {a b c : World} (h : Ex p a b) (k : Upd p b c) : Ex p a c := ⟨k.os.trans h.os, k.tape.trans h.tape, k.output.trans h.output, by rw [k.size]; exact h.size, fun i hi hne => (k.block i hne).trans (h.block i hi hne)⟩
theorem Ex.bel {p : Nat} {a b c : World} (h : Ex p a b) (k : Below b.heap.size b c) : Ex p a c := ⟨k.os.trans h.os, k.tape.trans h.tape, k.output.trans h.output, Nat.le_trans h.size k.size, fun i hi hne => (k.block i (Nat.lt_of_lt_of_le hi h.size)).trans (h.block i hi hne)⟩
theorem VA.ex {w w' : World} {p q : Nat} {cs : List Value} {T : TypeId} (h : VA w q cs T) (k : Ex p w w') (hq : q ≠ p) : VA w' q cs T := ⟨by rw [k.block q h.lt hq]; exact h.blk⟩
theorem OwnB.ex {w w' : World} {B g n cap q : Nat} {cs : List Nat} (h : OwnB w B (.slice (some ⟨g, 0, none⟩) n cap) cs) (k : Ex q w w') (hq : g ≠ q) : OwnB w' B (.slice (some ⟨g, 0, none⟩) n cap) cs := by
  refine ⟨h.byte, h.own.1, ?_⟩
  rcases h.own.2 with h2 | ⟨g', cap', cur, e, hb, hg, r⟩
  · exact Or.inl h2
  · cases e
    exact Or.inr ⟨g, cap, cur, rfl, hb, (k.block g (Array.getElem?_eq_some_iff.1 hg).1 hq).trans hg, r⟩
theorem below_ex {p B : Nat} {w0 a b : World} (h : Below B w0 a) (k : Ex p a b) (hp : B ≤ p) (hB : B ≤ a.heap.size) : Below B w0 b := ⟨k.os.trans h.os, k.tape.trans h.tape, k.output.trans h.output, Nat.le_trans h.size k.size, fun i hi => (k.block i (by omega) (by omega)).trans (h.block i hi)⟩
theorem xq {a b : Nat} (ha : a < 4294967296) (hb : b < 4294967296) : bits .xor .u64 (a : Int) (b : Int) = ((a ^^^ b : Nat) : Int) := bits_xor_u64_nat a b (by omega) (by omega)
theorem aq {a b : Nat} (ha : a < 4294967296) (hb : b < 4294967296) : bits .and .u64 (a : Int) (b : Int) = ((a &&& b : Nat) : Int) := bits_and_u64_nat a b (by omega) (by omega)
theorem div_small {X n : Nat} (h : X < 4294967296) : X / n < 4294967296 := Nat.lt_of_le_of_lt (Nat.div_le_self _ _) h
/-- a round of the mixing -/
theorem rnds_next {SS WW : List Nat} {k A B C D E F G Z : Nat} (h : rnds SS WW k = [A, B, C, D, E, F, G, Z]) {t u : Nat} (ht : t = (Z + S1 E + Ch E F G + rts.getD k 0 + WW.getD k 0) % 4294967296) (hu : u = (S0 A + Mj A B C) % 4294967296) :
    rnds SS WW (k + 1) = [(t + u) % 4294967296, A, B, C, (D + t) % 4294967296, E, F, G] := by
  show rnd (rnds SS WW k) ((rts.getD k 0 + WW.getD k 0) % 4294967296) = _
  rw [h]
  have e1 : TT1 [A, B, C, D, E, F, G, Z] ((rts.getD k 0 + WW.getD k 0) % 4294967296) = t := by
    rw [ht]
    show (Z + S1 E + Ch E F G + (rts.getD k 0 + WW.getD k 0) % 4294967296) % 4294967296 = _
    omega
  have e2 : TT2 [A, B, C, D, E, F, G, Z] = u := by rw [hu]; rfl
  unfold rnd
  rw [e1, e2]
  rfl
theorem s1_lt {e : Nat} (h : e < 4294967296) : S1 e < 4294967296 := xor32 (xor32 (rot_lt h) (rot_lt h)) (rot_lt h)
theorem s0_lt {e : Nat} (h : e < 4294967296) : S0 e < 4294967296 := xor32 (xor32 (rot_lt h) (rot_lt h)) (rot_lt h)
end Go.Proofs.YtbgmepepcdpkfaaDoor
