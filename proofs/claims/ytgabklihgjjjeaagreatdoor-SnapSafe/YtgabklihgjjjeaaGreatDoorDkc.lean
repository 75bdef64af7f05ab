/- disk III: sectors; worlds in which only blocks of the disk's own types changed; cut: the sectors of bytes. -/
import Derived.Test.YtgabklihgjjjeaaGreatDoorDkb
namespace Go.Proofs.YtgabklihgjjjeaaGreatDoor
open Go.RowKit Go.Shelf pk
set_option linter.unusedVariables false
attribute [local go_sem] Oper.semAt_some

/-- the types of the disk's own blocks -/
def Dt (T : TypeId) : Prop := T = 73 ∨ T = 105 ∨ T = 107
/-- cells of other types are as they were -/
structure Kee (w w' : World) : Prop where
  os : w'.os = w.os
  tape : w'.tape = w.tape
  output : w'.output = w.output
  size : w.heap.size ≤ w'.heap.size
  blk : ∀ (i : Nat) (cs : Array Value) (T : TypeId) (z : Nat × Nat), w.heap[i]? = some (Obj.cells cs T z) → ¬ Dt T → w'.heap[i]? = some (Obj.cells cs T z)
theorem Kee.refl (w : World) : Kee w w := ⟨rfl, rfl, rfl, Nat.le_refl _, fun _ _ _ _ h _ => h⟩
theorem Kee.trans {a b c : World} (h : Kee a b) (k : Kee b c) : Kee a c := ⟨k.os.trans h.os, k.tape.trans h.tape, k.output.trans h.output, Nat.le_trans h.size k.size, fun i cs T z e hT => k.blk i cs T z (h.blk i cs T z e hT) hT⟩
theorem hlt_of {w : World} {i : Nat} {o : Obj} (h : w.heap[i]? = some o) : i < w.heap.size := (Array.getElem?_eq_some_iff.1 h).1
theorem Kee.bel {w w' : World} (h : Below w.heap.size w w') : Kee w w' := ⟨h.os, h.tape, h.output, h.size, fun i cs T z e _ => (h.block i (hlt_of e)).trans e⟩
theorem Kee.row {w w' : World} {r : Nat} {o : Obj} (h : w.grownBy w' (some r)) (ho : w.heap[r]? = some o) (hc : o.isCells = false ∨ ∃ cs T z, o = Obj.cells cs T z ∧ Dt T) : Kee w w' :=
  ⟨h.os, h.tape, h.output, h.size, fun i cs T z e hT => (h.block i (hlt_of e) (fun er => by
    cases er
    rw [ho] at e
    cases e
    rcases hc with hc | ⟨cs', T', z', e', hD⟩
    · simp [Obj.isCells] at hc
    · cases e'
      exact hT hD)).trans e⟩
theorem Kee.upd {w w' : World} {p : Nat} {cs : List Value} {T : TypeId} (h : Upd p w w') (v : VA w p cs T) (hT : Dt T) : Kee w w' :=
  ⟨h.os, h.tape, h.output, Nat.le_of_eq h.size.symm, fun i cs' T' z e hT' => (h.block i (fun er => by subst er; rw [v.blk] at e; cases e; exact hT' hT)).trans e⟩
theorem VA.kee {w w' : World} {p : Nat} {cs : List Value} {T : TypeId} (h : VA w p cs T) (k : Kee w w') (hT : ¬ Dt T) : VA w' p cs T := ⟨k.blk _ _ _ _ h.blk hT⟩
theorem kee_own {β : Type} (B : Nat) (w : World) : OwnFrom B (fun (_ : β) W => Kee w W) := fun s A A' row h g hr => h.trans (by
  cases row with
  | none => exact Kee.bel ⟨g.os, g.tape, g.output, g.size, fun i hi => g.block i hi (by simp)⟩
  | some r =>
    obtain ⟨_, o, ho, hc⟩ := hr r rfl
    exact Kee.row g ho (.inl hc))
/-- the slice's elements lie in a block of another type -/
def Safe (w : World) (v : Value) : Prop := ∀ b off n c, v = .slice (some ⟨b, off, none⟩) n c → ∃ cs T z, w.heap[b]? = some (Obj.cells cs T z) ∧ ¬ Dt T
theorem Safe.kee {w w' : World} {v : Value} (h : Safe w v) (k : Kee w w') : Safe w' v := fun b off n c e => by
  obtain ⟨cs, T, z, hb, hT⟩ := h b off n c e
  exact ⟨cs, T, z, k.blk _ _ _ _ hb hT, hT⟩
theorem pk.Bs.kee {w w' : World} {v : Value} {bs : List Nat} (h : Bs w v bs) (hs : Safe w v) (k : Kee w w') : Bs w' v bs := by
  obtain ⟨hby, a, c, rfl, h1, h2, h3, h4⟩ := h
  refine ⟨hby, a, c, rfl, h1, h2, h3, fun h0 => ?_⟩
  obtain ⟨b, off, rfl, hb, hx⟩ := h4 h0
  obtain ⟨cs, T, z, hc, hT⟩ := hs b off _ _ rfl
  refine ⟨b, off, rfl, Nat.lt_of_lt_of_le hb k.size, fun j hj => ?_⟩
  rw [← hx j hj]
  exact World.cell?_of_block ((k.blk _ _ _ _ hc hT).trans hc.symm)
/-- the cells of a sector -/
def sect (s : List Nat) : List Value := (List.range 32).map fun i => Value.int .u8 ((s.getD i 0 : Nat) : Int)
theorem sect_len (s : List Nat) : (sect s).length = 32 := by simp [sect]
theorem sect_one (s : List Nat) : ∀ v ∈ sect s, v.oneCell' = true := fun v h => by
  obtain ⟨i, _, rfl⟩ := List.mem_map.1 h; rfl
theorem infoS : (Tryz.prog.info? 107).map (fun i => (i.zero.map (fun z => z.cells.size), i.size, i.bytes)) = some (some 32, 32, 32) := by kernel_rfl
/-- sectors as elements of rows -/
def KS : Kd (List Nat) where
  T := 107
  S := 103
  k := 32
  bt := 32
  enc := sect
  info := by
    obtain ⟨i, hi, hz⟩ := Option.map_eq_some_iff.1 infoS
    simp only [Prod.mk.injEq] at hz
    obtain ⟨z, hz0, hz1⟩ := Option.map_eq_some_iff.1 hz.1
    exact ⟨i, z, hi, hz0, hz.2.1, hz.2.2, hz1⟩
  und := Tryz.underlying103
  pos := by decide
  len := sect_len
  one := sect_one
/-- the x-th part of the bytes -/
def part (bs : List Nat) (x : Nat) : List Nat := (bs.drop (32 * x)).take 32
/-- what is handed out -/
def encS (bs : List Nat) (x : Nat) : Array Value := #[.agg (sect (part bs x)).toArray]
/-- what a round must keep -/
def KpD (B : Nat) (A A' : World) : Prop := Kee A A' ∧ KeepsFrom B A A'
theorem KpD.trans {n : Nat} {A B C : World} (h : KpD n A B) (k : KpD n B C) : KpD n A C := ⟨h.1.trans k.1, h.2.trans k.2⟩
theorem part_sect {bs : List Nat} (x : Nat) : cl (part bs x) ++ (List.replicate 32 (Value.int .u8 0)).drop (part bs x).length = sect (part bs x) := by
  have hl : (part bs x).length ≤ 32 := by unfold part; simp; omega
  generalize part bs x = s at *
  rw [List.drop_replicate]
  refine List.ext_getElem? (fun i => ?_)
  unfold sect cl
  by_cases h1 : i < s.length
  · rw [List.getElem?_append_left (by simpa using h1)]
    simp [h1, show i < 32 by omega]
  · rw [List.getElem?_append_right (by simpa using h1)]
    rw [List.getElem?_replicate, List.length_map, List.getElem?_map]
    by_cases h2 : i < 32
    · rw [if_pos (by omega)]
      simp [h2, List.getElem?_eq_none (Nat.le_of_not_lt h1)]
    · rw [if_neg (by omega), List.getElem?_eq_none (by simpa using h2)]
      rfl
theorem bs_part {w : World} {b off len cap : Nat} {sa : Option Addr} {bs : List Nat} (h : Bs w (.slice sa len cap) bs) (hsa : 0 < len → sa = some ⟨b, off, none⟩) (x : Nat) : Bs w (.slice (some ⟨b, off + 32 * x, none⟩) (min 32 (len - 32 * x)) (min 32 (len - 32 * x))) (part bs x) := by
  obtain ⟨hby, a, c, e, h1, h2, h3, h4⟩ := h
  cases e
  have hl : (part bs x).length = min 32 (bs.length - 32 * x) := by unfold part; simp
  refine ⟨(hby.drop _).take _, some ⟨b, off + 32 * x, none⟩, min 32 (bs.length - 32 * x), by rw [hl], by omega, by omega, fun e => (by cases e), fun h0 => ?_⟩
  obtain ⟨b', off', e', hb, hx⟩ := h4 (by omega)
  rw [hsa (by omega)] at e'
  cases e'
  refine ⟨b, off + 32 * x, rfl, hb, fun k hk => ?_⟩
  rw [Nat.add_assoc, hx (32 * x + k) (by omega), part, bt_take _ _ _ (by omega), bt_drop]
end Go.Proofs.YtgabklihgjjjeaaGreatDoor
