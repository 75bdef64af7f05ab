/- disk II: slices.Chunk over bytes, by 32 at a time. -/
import Derived.Test.YtkmdegmpffgplaaGreatDoorLad
import Derived.Test.YtkmdegmpffgplaaGreatDoorLae
import Derived.Laws.CopyOwn
namespace Go.Proofs.YtkmdegmpffgplaaGreatDoor
open Go.RowKit Go.Shelf pk
set_option linter.unusedVariables false
attribute [local go_sem] Oper.semAt_some

/-- how many parts there are -/
def cnt (len : Nat) : Nat := (len + 31) / 32
/-- the x-th part, as it is handed out -/
def encC (b off len : Nat) (x : Nat) : Array Value := #[.slice (some ⟨b, off + 32 * x, none⟩) (min 32 (len - 32 * x)) (min 32 (len - 32 * x))]
/-- what a round must keep -/
def KpC (B1 B2 : Nat) (A A' : World) : Prop := A'.cell? ⟨B1, 0, none⟩ = A.cell? ⟨B1, 0, none⟩ ∧ A'.cell? ⟨B2, 0, none⟩ = A.cell? ⟨B2, 0, none⟩
theorem KpC.trans {B1 B2 : Nat} {A B C : World} (h : KpC B1 B2 A B) (k : KpC B1 B2 B C) : KpC B1 B2 A C := ⟨k.1.trans h.1, k.2.trans h.2⟩
set_option maxRecDepth 100000 in
set_option maxHeartbeats 2000000 in
theorem chunk1_in (n : Nat) (hn : 1 ≤ n) (l B1 B2 b off len cap : Nat) (sa : Option Addr) (hsa : 0 < len → sa = some ⟨b, off, none⟩) (hcap : len ≤ cap ∧ cap ≤ 9223372036854775807 ∧ len ≤ 140737488355328) (J Jx : List Nat → World → Prop)
    (hY : ∀ pre x W, J pre W → pre.length < cnt len → YieldAt Fence.wide (n - 1) Tryz.prog l (encC b off len x) W fun e W' =>
      (e = .returned (.bool true) ∧ J (pre ++ [x]) W' ∧ KpC B1 B2 W W') ∨ (e = .returned (.bool false) ∧ Jx (pre ++ [x]) W'))
    (W : World) (hb1 : W.cell? ⟨B1, 0, none⟩ = some (.slice sa len cap)) (hb2 : W.cell? ⟨B2, 0, none⟩ = some (.int .i64 32)) (h0 : J [] W) (hJ : AbidesFrom W.heap.size J) :
    CallsIn Fence.wide n Tryz.prog 127 #[.func (.yield l) #[] #[], .pointer (some ⟨B1, 0, none⟩), .pointer (some ⟨B2, 0, none⟩)] W fun e W' => (∃ v, e = .returned v) ∧
      ((∃ ys, ys = List.range (cnt len) ∧ J ys W') ∨ (∃ pre, True ∧ Jx pre W')) := by
  refine callsIn_of_wp Tryz.func127 rfl trivial ?_ rfl
  simp only [Tryz.ntmps127, List.size_toArray, List.length_cons, List.length_nil, Nat.reduceAdd, Nat.reduceSub, Array.replicate_succ, Array.replicate_zero, List.push_toArray, List.append_toArray, List.nil_append, List.cons_append]
  gi_wp2
  gi_loopw [4] (fun i wr => ∃ k : Nat, k ≤ cnt len ∧ i = .int .i64 ((32 * k : Nat) : Int) ∧ Hid (J (List.range k) wr) ∧ wr.cell? ⟨B1, 0, none⟩ = some (.slice sa len cap) ∧ wr.cell? ⟨B2, 0, none⟩ = some (.int .i64 32))
    (fun i _ => (len + 32 - intOf i).toNat)
  case atStart => exact ⟨0, Nat.zero_le _, by simp, h0, hb1, hb2⟩
  case round =>
    obtain ⟨k, hk, rfl, hJs, y1, y2⟩ := hrel
    by_cases hlt : 32 * k < len
    · have hkc : k < cnt len := by unfold cnt; omega
      obtain rfl := hsa (by omega)
      obtain ⟨i, hi⟩ : ∃ i, i = 32 * k := ⟨_, rfl⟩
      have HI : Hid (i = 32 * k) := hi
      rw [← hi] at hlt ⊢
      clear hi
      have d1 : (i : Int) < (len : Int) := by omega
      have d2 : (0 : Int) ≤ (i : Int) := by omega
      gi_wp2
      refine wpIn_wide.2 ?_
      go_region
      obtain ⟨m, hm⟩ : ∃ m, m = min 32 (len - i) := ⟨_, rfl⟩
      rw [show (if ((len - i : Nat) : Int) < 32 then ((len - i : Nat) : Int) else 32) = (m : Int) by split <;> omega]
      have hJd : J (List.range k) wr.drew := hJ _ _ _ none hJs.out ⟨rfl, rfl, rfl, Nat.le_refl _, fun _ _ _ => rfl⟩ (fun r e => by cases e)
      obtain ⟨fn, tmps, assign, body, hy, hR⟩ := hY _ k wr.drew hJd (by rw [List.length_range]; exact hkc)
      have HR := (show Hid _ from hR)
      unfold encC at hy
      rw [← HI.out, ← hm] at hy
      have z1 : wr.drew.cell? ⟨B1, 0, none⟩ = some (.slice (some ⟨b, off, none⟩) len cap) := y1
      have z2 : wr.drew.cell? ⟨B2, 0, none⟩ = some (.int .i64 32) := y2
      have d3 : (i : Int) + (m : Int) ≤ (len : Int) := by omega
      have d4 : (i : Int) + (m : Int) ≤ (cap : Int) := by omega
      have d5 : (0 : Int) < (m : Int) := by omega
      have d6 : 0 < m := by omega
      have HM : Hid (m = min 32 (len - i)) := hm
      clear hR hm hJd
      gi_wp2
      refine RoundIn.mono HR.out ?_
      rintro e W3 (⟨rfl, hJ3, hk3⟩ | ⟨rfl, hJx3⟩)
      · have HJ3 := (show Hid _ from hJ3)
        have x1 := hk3.1.trans z1
        have x2 := hk3.2.trans z2
        clear hJ3 hk3
        have d7 : (i : Int) + 32 ≤ 140737488355328 + 64 := by omega
        gi_wp2
        go_roundw
        case rel => exact ⟨k + 1, by omega, by have := HI.out; rw [this]; congr 1, by show J _ _; rw [List.range_succ]; exact HJ3.out, x1, x2⟩
        case measure => simp [intOf]; omega
      · have HJ3 := (show Hid _ from hJx3)
        clear hJx3
        gi_wp2
        refine bodyPost_ret (results_none rfl _ _ _) rfl ?_
        exact ⟨⟨_, rfl⟩, .inr ⟨_, trivial, HJ3.out⟩⟩
    · have hke : k = cnt len := by unfold cnt at hk ⊢; omega
      subst hke
      gi_wp2
      go_end0
      exact ⟨⟨_, rfl⟩, .inl ⟨_, rfl, hJs.out⟩⟩
theorem chunk_in (n : Nat) (a : Option Addr) (len cap : Nat) (w : World) :
    CallsIn Fence.wide n Tryz.prog 106 #[.slice a len cap, .int .i64 32] w fun e w' => e = .returned (.func (.func 127) #[] #[.pointer (some ⟨w.heap.size, 0, none⟩), .pointer (some ⟨w.heap.size + 1, 0, none⟩)]) ∧ w' = (w.alloc (.cells #[.slice a len cap] 22)).alloc (.cells #[.int .i64 32] 3) := by
  refine callsIn_wide.2 ?_
  go_enter Tryz.func106, Tryz.ntmps106
  go_wp2
  go_ret
  exact ⟨rfl, rfl⟩
theorem chunk_stops (n : Nat) (hn : 1 ≤ n) (B1 B2 b off len cap : Nat) (sa : Option Addr) (hsa : 0 < len → sa = some ⟨b, off, none⟩) (hcap : len ≤ cap ∧ cap ≤ 9223372036854775807 ∧ len ≤ 140737488355328) (w : World) (hb1 : w.cell? ⟨B1, 0, none⟩ = some (.slice sa len cap)) (hb2 : w.cell? ⟨B2, 0, none⟩ = some (.int .i64 32)) :
    SeqStopsK Fence.wide n Tryz.prog 127 #[.pointer (some ⟨B1, 0, none⟩), .pointer (some ⟨B2, 0, none⟩)] (encC b off len) (KpC B1 B2) (fun ys => ys = List.range (cnt len)) (fun _ => True) (cnt len) w := fun l J Jx W hW hJ _ hY h0 =>
  chunk1_in n hn l B1 B2 b off len cap sa hsa hcap J Jx hY W ((hW.cell (p := ⟨B1, 0, none⟩) (World.block_lt_of_cell? w _ hb1)).trans hb1) ((hW.cell (p := ⟨B2, 0, none⟩) (World.block_lt_of_cell? w _ hb2)).trans hb2) h0 hJ
end Go.Proofs.YtkmdegmpffgplaaGreatDoor
/- disk III: sectors; worlds in which only blocks of the disk's own types changed; cut: the sectors of bytes. -/
namespace Go.Proofs.YtkmdegmpffgplaaGreatDoor
open Go.RowKit Go.Shelf pk
set_option linter.unusedVariables false
attribute [local go_sem] Oper.semAt_some

/-- the types of the disk's own blocks -/
def Dt (T : TypeId) : Prop := T = 106 ∨ T = 116 ∨ T = 143
/-- cells of other types are as they were -/
structure Kee (w w' : World) : Prop where
  os : w'.os = w.os
  tape : w'.tape = w.tape
  output : w'.output = w.output
  size : w.heap.size ≤ w'.heap.size
  blk : ∀ (i : Nat) (cs : Array Value) (T : TypeId) (z : Nat × Nat), w.heap[i]? = some (Obj.cells cs T z) → ¬ Dt T → w'.heap[i]? = some (Obj.cells cs T z)
theorem Kee.refl (w : World) : Kee w w := ⟨rfl, rfl, rfl, Nat.le_refl _, fun _ _ _ _ h _ => h⟩
theorem Kee.trans {a b c : World} (h : Kee a b) (k : Kee b c) : Kee a c := ⟨k.os.trans h.os, k.tape.trans h.tape, k.output.trans h.output, Nat.le_trans h.size k.size, fun i cs T z e hT => k.blk i cs T z (h.blk i cs T z e hT) hT⟩
theorem hlt_of {w : World} {i : Nat} {o : Obj} (h : w.heap[i]? = some o) : i < w.heap.size := (Array.getElem?_eq_some_iff.1 h).1
theorem Kee.bel {w w' : World} (h : Below w.heap.size w w') : Kee w w' := ⟨h.os, h.tape, h.output, h.size, fun i cs T z e _ => (h.block i (hlt_of e)).trans e⟩
theorem Kee.row {w w' : World} {r : Nat} {o : Obj} (h : w.grownBy w' (some r)) (ho : w.heap[r]? = some o) (hc : o.isCells = false ∨ ∃ cs T z, o = Obj.cells cs T z ∧ Dt T) : Kee w w' :=
  ⟨h.os, h.tape, h.output, h.size, fun i cs T z e hT => (h.block i (hlt_of e) (fun er => by
    cases er
    rw [ho] at e
    cases e
    rcases hc with hc | ⟨cs', T', z', e', hD⟩
    · simp [Obj.isCells] at hc
    · cases e'
      exact hT hD)).trans e⟩
theorem Kee.upd {w w' : World} {p : Nat} {cs : List Value} {T : TypeId} (h : Upd p w w') (v : VA w p cs T) (hT : Dt T) : Kee w w' :=
  ⟨h.os, h.tape, h.output, Nat.le_of_eq h.size.symm, fun i cs' T' z e hT' => (h.block i (fun er => by subst er; rw [v.blk] at e; cases e; exact hT' hT)).trans e⟩
theorem VA.kee {w w' : World} {p : Nat} {cs : List Value} {T : TypeId} (h : VA w p cs T) (k : Kee w w') (hT : ¬ Dt T) : VA w' p cs T := ⟨k.blk _ _ _ _ h.blk hT⟩
theorem kee_own {β : Type} (B : Nat) (w : World) : OwnFrom B (fun (_ : β) W => Kee w W) := fun s A A' row h g hr => h.trans (by
  cases row with
  | none => exact Kee.bel ⟨g.os, g.tape, g.output, g.size, fun i hi => g.block i hi (by simp)⟩
  | some r =>
    obtain ⟨_, o, ho, hc⟩ := hr r rfl
    exact Kee.row g ho (.inl hc))
/-- the slice's elements lie in a block of another type -/
def Safe (w : World) (v : Value) : Prop := ∀ b off n c, v = .slice (some ⟨b, off, none⟩) n c → ∃ cs T z, w.heap[b]? = some (Obj.cells cs T z) ∧ ¬ Dt T
theorem Safe.kee {w w' : World} {v : Value} (h : Safe w v) (k : Kee w w') : Safe w' v := fun b off n c e => by
  obtain ⟨cs, T, z, hb, hT⟩ := h b off n c e
  exact ⟨cs, T, z, k.blk _ _ _ _ hb hT, hT⟩
theorem pk.Bs.kee {w w' : World} {v : Value} {bs : List Nat} (h : Bs w v bs) (hs : Safe w v) (k : Kee w w') : Bs w' v bs := by
  obtain ⟨hby, a, c, rfl, h1, h2, h3, h4⟩ := h
  refine ⟨hby, a, c, rfl, h1, h2, h3, fun h0 => ?_⟩
  obtain ⟨b, off, rfl, hb, hx⟩ := h4 h0
  obtain ⟨cs, T, z, hc, hT⟩ := hs b off _ _ rfl
  refine ⟨b, off, rfl, Nat.lt_of_lt_of_le hb k.size, fun j hj => ?_⟩
  rw [← hx j hj]
  exact World.cell?_of_block ((k.blk _ _ _ _ hc hT).trans hc.symm)
/-- the cells of a sector -/
def sect (s : List Nat) : List Value := (List.range 32).map fun i => Value.int .u8 ((s.getD i 0 : Nat) : Int)
theorem sect_len (s : List Nat) : (sect s).length = 32 := by simp [sect]
theorem sect_one (s : List Nat) : ∀ v ∈ sect s, v.oneCell' = true := fun v h => by
  obtain ⟨i, _, rfl⟩ := List.mem_map.1 h; rfl
theorem infoS : (Tryz.prog.info? 143).map (fun i => (i.zero.map (fun z => z.cells.size), i.size, i.bytes)) = some (some 32, 32, 32) := by kernel_rfl
/-- sectors as elements of rows -/
def KS : Kd (List Nat) where
  T := 143
  S := 114
  k := 32
  bt := 32
  enc := sect
  info := by
    obtain ⟨i, hi, hz⟩ := Option.map_eq_some_iff.1 infoS
    simp only [Prod.mk.injEq] at hz
    obtain ⟨z, hz0, hz1⟩ := Option.map_eq_some_iff.1 hz.1
    exact ⟨i, z, hi, hz0, hz.2.1, hz.2.2, hz1⟩
  und := Tryz.underlying114
  pos := by decide
  len := sect_len
  one := sect_one
/-- the x-th part of the bytes -/
def part (bs : List Nat) (x : Nat) : List Nat := (bs.drop (32 * x)).take 32
/-- what is handed out -/
def encS (bs : List Nat) (x : Nat) : Array Value := #[.agg (sect (part bs x)).toArray]
/-- what a round must keep -/
def KpD (B : Nat) (A A' : World) : Prop := Kee A A' ∧ KeepsFrom B A A'
theorem KpD.trans {n : Nat} {A B C : World} (h : KpD n A B) (k : KpD n B C) : KpD n A C := ⟨h.1.trans k.1, h.2.trans k.2⟩
theorem part_sect {bs : List Nat} (x : Nat) : cl (part bs x) ++ (List.replicate 32 (Value.int .u8 0)).drop (part bs x).length = sect (part bs x) := by
  have hl : (part bs x).length ≤ 32 := by unfold part; simp; omega
  generalize part bs x = s at *
  rw [List.drop_replicate]
  refine List.ext_getElem? (fun i => ?_)
  unfold sect cl
  by_cases h1 : i < s.length
  · rw [List.getElem?_append_left (by simpa using h1)]
    simp [h1, show i < 32 by omega]
  · rw [List.getElem?_append_right (by simpa using h1)]
    rw [List.getElem?_replicate, List.length_map, List.getElem?_map]
    by_cases h2 : i < 32
    · rw [if_pos (by omega)]
      simp [h2, List.getElem?_eq_none (Nat.le_of_not_lt h1)]
    · rw [if_neg (by omega), List.getElem?_eq_none (by simpa using h2)]
      rfl
theorem bs_part {w : World} {b off len cap : Nat} {sa : Option Addr} {bs : List Nat} (h : Bs w (.slice sa len cap) bs) (hsa : 0 < len → sa = some ⟨b, off, none⟩) (x : Nat) : Bs w (.slice (some ⟨b, off + 32 * x, none⟩) (min 32 (len - 32 * x)) (min 32 (len - 32 * x))) (part bs x) := by
  obtain ⟨hby, a, c, e, h1, h2, h3, h4⟩ := h
  cases e
  have hl : (part bs x).length = min 32 (bs.length - 32 * x) := by unfold part; simp
  refine ⟨(hby.drop _).take _, some ⟨b, off + 32 * x, none⟩, min 32 (bs.length - 32 * x), by rw [hl], by omega, by omega, fun e => (by cases e), fun h0 => ?_⟩
  obtain ⟨b', off', e', hb, hx⟩ := h4 (by omega)
  rw [hsa (by omega)] at e'
  cases e'
  refine ⟨b, off + 32 * x, rfl, hb, fun k hk => ?_⟩
  rw [Nat.add_assoc, hx (32 * x + k) (by omega), part, bt_take _ _ _ (by omega), bt_drop]
end Go.Proofs.YtkmdegmpffgplaaGreatDoor
/- disk IV: cut: an iterator over the sectors of bytes. -/
namespace Go.Proofs.YtkmdegmpffgplaaGreatDoor
open Go.RowKit Go.Shelf pk
set_option linter.unusedVariables false
attribute [local go_sem] Oper.semAt_some

/-- copy of bytes to the front of a row known whole -/
theorem cpRun {w : World} {rT : TypeId} {g dL dC : Nat} {u : Value} {bs : List Nat} (hu : Bs w u bs) (hL : bs.length ≤ dL) {cs : List Value} {T : TypeId} (V : VA w g cs T) (hf : bs.length ≤ cs.length) :
    ∃ w', (Builtin.copy_ #[22, 22] rT #[.slice (some ⟨g, 0, none⟩) dL dC, u]).run Tryz.prog w = .ok (.int .i64 (bs.length : Int)) w' ∧ VA w' g (cl bs ++ cs.drop bs.length) T ∧ Upd g w w' := by
  obtain ⟨i0, hi, hz0, hz1, hz2⟩ := info8_parts
  obtain ⟨hby, ad, c, rfl, h1, h2, h3, h4⟩ := hu
  by_cases h0 : bs.length = 0
  · obtain rfl : bs = [] := List.eq_nil_of_length_eq_zero h0
    exact ⟨w, run_copy_none (P := Tryz.prog) w 22 22 rT 5 (some ⟨g, 0, none⟩) ad dL dC 0 c Tryz.underlying22 (by rw [hi]; simp [hz1]) (Nat.zero_min _), ⟨by simpa [cl] using V.blk⟩, ⟨rfl, rfl, rfl, rfl, fun _ _ => rfl⟩⟩
  · obtain ⟨b, off, rfl, hb, hx⟩ := h4 (by omega)
    have hr := run_copy_row (P := Tryz.prog) w 22 22 rT 5 g 0 dL dC ⟨b, off, none⟩ bs.length c cs.toArray T (cl bs) Tryz.underlying22 (by rw [hi]; simp [hz1]) V.blk (by rw [cl_len]; exact (Nat.min_eq_left hL).symm) (fun j v hv => by
      have hj : j < bs.length := by have := (List.getElem?_eq_some_iff.1 hv).1; rwa [cl_len] at this
      rw [Go.WideShapes.add_plain, hx j hj, ← cl_get bs j hj, hv]) (by simpa [cl_len] using hf) (fun v hv => cl_one hv)
    rw [cl_len] at hr
    refine ⟨_, hr, ⟨?_⟩, upd_setRow w g _⟩
    rw [setRow_heap w g _ _ _ _ V.blk]
    simp
theorem ownFrom_mono {β : Type} {B B' : Nat} {I : β → World → Prop} (h : OwnFrom B I) (hB : B ≤ B') : OwnFrom B' I := fun s A A' row hs hg hr => h s A A' row hs hg (fun r e => ⟨Nat.le_trans hB (hr r e).1, (hr r e).2⟩)
/-- all of an array is loaded, in a round too -/
theorem ldAIn {F : Fence} {n : Nat} {w : World} {ops : Array Oper} {rest : List Oper} {o : Oper} {a : Act} {Q : Exit → Act → World → Prop} (hgd : o.guard = none) (t : TypeId) (x : Operand) (ho : o.op = .load t x)
    (p : Nat) (hx : a.eval x = .pointer (some ⟨p, 0, none⟩)) (v : Value) (hrun : (loadVar t ⟨p, 0, none⟩).run Tryz.prog w = .ok v w)
    (k : wpListIn F n Tryz.prog ops Q rest (a.put o.dst v) w) : wpListIn F n Tryz.prog ops Q (o :: rest) a w := by
  refine wpListIn_plain hgd fun K hK' => ?_
  unfold Oper.wpIn
  refine ⟨by simp [Oper.about, ho], ?_⟩
  rw [Oper.semAt_plain F _ _ (by rw [ho]; intro c hc'; cases hc')]
  unfold execOp
  simp only [ho, hx, Instr.loadAt, Instr.sureAddr, Sem.run_bind, Sem.run_pure, Result.andThen_ok, hrun]
  exact hK' _ _ k
theorem infoS1 : (Tryz.prog.info? 143).map (·.size) = some 32 := by kernel_rfl
theorem zeroS (w : World) : (zeroValue 143).run Tryz.prog w = .ok (.agg (List.replicate 32 (Value.int .u8 0)).toArray) w := by
  kernel_rfl
set_option maxRecDepth 100000 in
set_option maxHeartbeats 2000000 in
theorem cut1_in (n : Nat) (hn : 3 ≤ n) (Bx b off len cap B₀ : Nat) (sa : Option Addr) (bs : List Nat) (hsa : 0 < len → sa = some ⟨b, off, none⟩) (hcap : len ≤ cap ∧ cap ≤ 9223372036854775807 ∧ len ≤ 140737488355328) (w : World)
    (hbx : VA w Bx [.slice sa len cap] 22) (hbs : Bs w (.slice sa len cap) bs) (hsf : Safe w (.slice sa len cap)) (hB : B₀ ≤ w.heap.size + 2) :
    SeqC Fence.wide n Tryz.prog 105 #[.pointer (some ⟨Bx, 0, none⟩)] (encS bs) (KpD B₀) (List.range (cnt len)) w := by
  intro l J W hW hsz hJ hY h0
  have h1 : 1 ≤ n := by omega
  have X := hbx.step (hW)
  have HBS : Hid (Bs W (.slice sa len cap) bs) := hbs.step hW
  have HSF : Hid (Safe W (.slice sa len cap)) := hsf.kee (Kee.bel hW)
  have x0 := X.cell 0 (v := .slice sa len cap) rfl
  have hXl := X.lt
  refine callsIn_of_wp_marks Tryz.func105 rfl trivial ?_ rfl
  simp only [Tryz.ntmps105, List.size_toArray, List.length_cons, List.length_nil, Nat.reduceAdd, Nat.reduceSub, Array.replicate_succ, Array.replicate_zero, List.push_toArray, List.append_toArray, List.nil_append, List.cons_append]
  have hF : ∀ f, Fence.wide.fn f := fun _ => trivial
  have hF1 := hF 106
  gi_wp2_with (gi_at_call 106; refine (chunk_in (n - 1) _ _ _ _).mono ?_; rintro e w' ⟨rfl, rfl⟩)
  have B1 := (Below.refl W.heap.size W).alloc (Nat.le_refl _) (.cells #[.func (.yield l) #[] #[]] 176)
  have B2 := B1.alloc (by simp) (.cells #[.slice sa len cap] 22)
  have B3 := B2.alloc (by simp; omega) (.cells #[.int .i64 32] 3)
  have v0 := ((va_new W [.func (.yield l) #[] #[]] 176).alloc (.cells #[.slice sa len cap] 22)).alloc (.cells #[.int .i64 32] 3)
  have v1 := (va_new (W.alloc (.cells #[.func (.yield l) #[] #[]] 176)) [.slice sa len cap] 22).alloc (.cells #[.int .i64 32] 3)
  have v2 := va_new ((W.alloc (.cells #[.func (.yield l) #[] #[]] 176)).alloc (.cells #[.slice sa len cap] 22)) [.int .i64 32] 3
  simp only [World.size_alloc] at v1 v2
  generalize hW2 : ((W.alloc (.cells #[.func (.yield l) #[] #[]] 176)).alloc (.cells #[.slice sa len cap] 22)).alloc (.cells #[.int .i64 32] 3) = W2 at *
  have hs2 : W2.heap.size = W.heap.size + 3 := by rw [← hW2]; simp
  have HS2 : Hid (W2.heap.size = W.heap.size + 3) := hs2
  clear B1 B2
  refine wpIn_rangeFunc_ownH rfl h1 (gf := 127) (lb := #[.pointer (some ⟨W.heap.size + 1, 0, none⟩), .pointer (some ⟨W.heap.size + 1 + 1, 0, none⟩)]) rfl trivial (enters_of Tryz.func127 (by kernel_rfl) rfl)
    (chunk_stops (n - 1) (by omega) (W.heap.size + 1) (W.heap.size + 1 + 1) b off len cap sa hsa hcap W2 (v1.cell 0 rfl) (v2.cell 0 rfl)) KpC.trans
    (fun V k o o' hk _ _ _ => ⟨World.cell?_of_block (World.putObj_heap_other (by dsimp only; omega)), World.cell?_of_block (World.putObj_heap_other (by dsimp only; omega))⟩) (Below.refl _ _) (fun _ => rfl)
    (fun pre V => J pre V ∧ Kee W2 V) (fun _ _ _ => False) (OwnFrom.and (ownFrom_mono hJ (by omega)) (kee_own _ _)) (fun _ _ _ _ _ h _ _ => h)
    ⟨hJ _ _ _ none h0 ⟨B3.os, B3.tape, B3.output, B3.size, fun i hi _ => B3.block i hi⟩ (fun r e => by cases e), Kee.refl _⟩
    (fun x a' _ => a' = { tmps := #[.func (.yield l) #[] #[], .pointer (some ⟨Bx, 0, none⟩), .pointer (some ⟨W.heap.size, 0, none⟩), (encC b off len x)[0]!, undef, .slice sa len cap, .func (.func 127) #[] #[.pointer (some ⟨W.heap.size + 1, 0, none⟩), .pointer (some ⟨W.heap.size + 1 + 1, 0, none⟩)], (encC b off len x)[0]!, undef, undef, undef, undef, undef, undef, undef], defers := [] }) (fun _ _ _ _ _ _ h _ _ => h)
    ?assign ?body ?done ?stop
  case assign =>
    rintro l' pre x V K hi hK
    unfold encC at hK ⊢
    gi_wp2
    exact hK _ _ (KeepsFrom.refl _ _) ⟨rfl, rfl⟩ hi rfl
  case body =>
    rintro l' pre x a' V hl' ⟨r, hr⟩ ⟨hj, hk⟩ rfl hlt
    have y0 := (v0.kee hk (by unfold Dt; decide)).cell 0 (v := .func (.yield l) #[] #[]) rfl
    have HP : Hid (Bs V (.slice (some ⟨b, off + 32 * x, none⟩) (min 32 (len - 32 * x)) (min 32 (len - 32 * x))) (part bs x)) := bs_part ((HBS.out.step B3).kee (HSF.out.kee (Kee.bel B3)) hk) hsa x
    have HJ' : Hid (J pre V) := hj
    have HK' : Hid (Kee W2 V) := hk
    have hl0 := World.block_lt_of_cell? V _ y0
    clear hj hk
    unfold encC
    generalize hm : min 32 (len - 32 * x) = m at *
    simp only [Array.getElem!_eq_getD, Array.getD_eq_getD_getElem?, List.getElem?_toArray, List.getElem?_cons_zero, Option.getD_some]
    have V1 := va_new V (List.replicate 32 (Value.int .u8 0)) 143
    have BV := (Below.refl V.heap.size V).alloc (Nat.le_refl _) (.cells (List.replicate 32 (Value.int .u8 0)).toArray 143)
    have hpl : (part bs x).length ≤ 32 := by unfold part; simp; omega
    obtain ⟨V2, hcp, S2, U2⟩ := cpRun (rT := 3) (dL := 32) (dC := 32) (HP.out.step BV) hpl V1 (by simpa using hpl)
    rw [part_sect] at S2
    simp only [List.replicate_succ, List.replicate_zero] at hcp
    have BV2 := U2.bel BV (Nat.le_refl _)
    have y2 := (BV2.cell (p := ⟨W.heap.size, 0, none⟩) hl0).trans y0
    have hld := run_loadVar_row (P := Tryz.prog) V2 V.heap.size 143 143 (sect (part bs x)).toArray (0, 0) _ S2.blk Tryz.underlying143 rfl (infoS1.trans (by simp [sect_len]))
    have hJ2 : J pre V2 := hJ _ _ _ none HJ'.out ⟨BV2.os, BV2.tape, BV2.output, BV2.size, fun i hi _ => BV2.block i hi⟩ (fun r e => by cases e)
    obtain ⟨fn, tmps, assign, body, hy, hR⟩ := yield_any (n - 1 - 1 - 1) (hY pre x V2 hJ2 (by rw [List.length_range]; exact hlt))
    have HR := (show Hid _ from hR)
    unfold encS at hy
    have HB2 := (show Hid _ from BV2)
    have HS := (show Hid _ from S2)
    clear hR hJ2 BV2 S2 U2 BV V1
    generalize (sect (part bs x)).toArray = ag at *
    gi_wp2_with (refine ldAIn rfl 143 _ rfl V.heap.size (by rfl) _ hld ?_)
    refine ⟨fun _ => by omega, RoundIn.mono (round_in HR.out) ?_⟩
    rintro e W3 ⟨rfl, hJ3, hk3⟩
    have HJ3 := (show Hid _ from hJ3)
    have HK3 := (show Hid _ from hk3)
    clear hJ3 hk3
    gi_wp2
    have kf : KeepsFrom W2.heap.size V W3 := KeepsFrom.trans ⟨HB2.out.size, fun k o _ hk _ => (HB2.out.block k (hlt_of hk)).trans hk⟩ ⟨HK3.out.2.size, fun k o hk => HK3.out.2.same k o (by omega)⟩
    have ke : Kee V W3 := (Kee.bel HB2.out).trans HK3.out.1
    have u1 := v1.kee HK'.out (by unfold Dt; decide)
    have u2 := v2.kee HK'.out (by unfold Dt; decide)
    exact ⟨kf, ⟨(((u1.kee ke (by unfold Dt; decide)).cell 0 rfl).trans (u1.cell 0 rfl).symm), ((u2.kee ke (by unfold Dt; decide)).cell 0 rfl).trans (u2.cell 0 rfl).symm⟩, HJ3.out, HK'.out.trans ke⟩
  case done =>
    rintro D ys V hD rfl ⟨hj, hk⟩ hK
    gi_wp2
    refine ⟨by simp, .inl ⟨_, _, rfl, run_takeDeferred hK, ?_⟩⟩
    exact ⟨_, results_none rfl _ _ _, ⟨_, rfl⟩, hJ.putObj _ hj (by omega) hK rfl⟩
  case stop =>
    rintro D c pre V _ _ h _
    exact h.elim
theorem cut_in (n : Nat) (a : Option Addr) (len cap : Nat) (w : World) :
    CallsIn Fence.wide n Tryz.prog 83 #[.slice a len cap] w fun e w' => e = .returned (.func (.func 105) #[] #[.pointer (some ⟨w.heap.size, 0, none⟩)]) ∧ w' = w.alloc (.cells #[.slice a len cap] 22) := by
  refine callsIn_wide.2 ?_
  go_enter Tryz.func83, Tryz.ntmps83
  go_wp2
  go_ret
  exact ⟨rfl, rfl⟩
end Go.Proofs.YtkmdegmpffgplaaGreatDoor
