/- texts of the model: Ga -/
import Derived.Test.YtjkiplndbcmmbaaGreatDoorProg
import Derived.WalkKit
import Derived.Maps.OwnSet
import Derived.Below
set_option linter.unusedVariables false
set_option linter.unusedSimpArgs false
set_option maxHeartbeats 16000000
set_option maxRecDepth 100000
namespace Go.Proofs.YtjkiplndbcmmbaaGreatDoor
open Tryz
open Go.RowKit Go.Maps
def heldR (v : Value) : Option (DataW Value × List MemPlace) := some (.held v, [])
theorem iS {v u : Value} {ps : List MemPlace} (h : heldR v = some (.held u, ps)) : v = u := by
 simp only [heldR, Option.some.injEq, Prod.mk.injEq, DataW.held.injEq] at h
 exact h.1
def MapF (w : World) (k : TypeId) (b n : Nat) (f : Lit → Option Value) : Prop :=
 ∃ D : DataW Value, w.ownsMap prog k heldR b n D ∧ ∀ key kl, keyOf prog k key = some kl → (Maps.has D kl = (f kl).isSome) ∧ ∀ z, D.atKey kl (.held z) = .held ((f kl).getD z)
theorem MapF.lt {w : World} {k : TypeId} {b n : Nat} {f : Lit → Option Value} (h : MapF w k b n f) : b < w.heap.size := by
 obtain ⟨D, h, _⟩ := h; exact h.lt
theorem ep (w : World) (k : TypeId) : MapF (w.alloc (.map #[] 0)) k w.heap.size 0 (fun _ => none) :=
 ⟨.map [], World.ownsMap_made w prog k heldR, fun key kl _ => ⟨rfl, fun z => rfl⟩⟩
theorem MapF.mono {w : World} {k : TypeId} {b n n' : Nat} {f : Lit → Option Value} (h : MapF w k b n f) (hn : n ≤ n') : MapF w k b n' f := by
 obtain ⟨D, h, hf⟩ := h; exact ⟨D, h.mono hn, hf⟩
theorem MapF.blk {w w' : World} {k : TypeId} {b n : Nat} {f : Lit → Option Value} (h : MapF w k b n f) (e : w'.heap[b]? = w.heap[b]?) : MapF w' k b n f := by
 obtain ⟨D, ⟨es, clock, hb, r⟩, hf⟩ := h
 exact ⟨D, ⟨es, clock, e.trans hb, r⟩, hf⟩
theorem MapF.step {w w' : World} {k : TypeId} {b n : Nat} {f : Lit → Option Value} (h : MapF w k b n f) (s : Below w.heap.size w w') : MapF w' k b n f := h.blk (s.block b h.lt)
theorem MapF.alloc {w : World} {k : TypeId} {b n : Nat} {f : Lit → Option Value} (h : MapF w k b n f) (o : Obj) : MapF (w.alloc o) k b n f := h.step ((Below.refl _ _).alloc (Nat.le_refl _) o)
theorem MapF.setCell {w : World} {k : TypeId} {b n : Nat} {f : Lit → Option Value} (h : MapF w k b n f) {a : Addr} (ha : b ≠ a.block) (u : Value) : MapF (w.setCell a u) k b n f := by
 obtain ⟨D, h, hf⟩ := h; exact ⟨D, h.setCell ha u, hf⟩
def upF (f : Lit → Option Value) (kl : Lit) (v : Value) : Lit → Option Value := fun x => if x.sameKey kl then some v else f x
theorem dq (f : Lit → Option Value) {kl : Lit} (hk : WideAt.IsKeyLit kl) (v : Value) : upF f kl v kl = some v := by unfold upF; rw [if_pos (WideAt.sameKey_self hk)]
theorem bC (f : Lit → Option Value) {kl x : Lit} (v : Value) (h : x ≠ kl) : upF f kl v x = f x := by
 unfold upF
 rw [if_neg (fun e => h (WideAt.sameKey_eq e))]
theorem MapF.put {w w' : World} {k : TypeId} {b n : Nat} {f : Lit → Option Value} (K : Keyed prog k) {D : DataW Value} (h : w.ownsMap prog k heldR b n D)
  (hf : ∀ key kl, keyOf prog k key = some kl → (Maps.has D kl = (f kl).isSome) ∧ ∀ z, D.atKey kl (.held z) = .held ((f kl).getD z)) {key v : Value} {kl : Lit} (hkey : keyOf prog k key = some kl)
  {m : Nat} (h' : w'.ownsMap prog k heldR b m (D.put kl (.held v))) : MapF w' k b m (upF f kl v) := by
 refine ⟨_, h', fun x xl hx => ?_⟩
 by_cases e : xl = kl
 ·subst e
  refine ⟨?_, fun z => ?_⟩
  ·rw [has_put_same h.isMap (K.key hkey), dq f (K.key hkey)]; rfl
  ·rw [atKey_put_same h.isMap (K.key hkey), dq f (K.key hkey)]; rfl
 ·refine ⟨?_, fun z => ?_⟩
  ·rw [has_put_other e, (hf x xl hx).1, bC f v e]
  ·rw [atKey_put_other e, (hf x xl hx).2, bC f v e]
theorem MapF.look_ok {w : World} {k t e : TypeId} {b n : Nat} {f : Lit → Option Value} (h : MapF w k b n f) (K : Keyed prog k) (ht : prog.underlying t = some (.map k e)) {z : Value} (hz : (zeroValue e).run prog w = .ok z w)
  {key : Value} {kl : Lit} (hkey : keyOf prog k key = some kl) : (Instr.lookup t (.map (some b)) key true).run prog w = .ok (.tuple #[(f kl).getD z, .bool (f kl).isSome]) w := by
 obtain ⟨D, h, hf⟩ := h
 obtain ⟨v, ps, hrun, hv⟩ := h.look_ok K ht hz (zd := .held z) (zp := []) rfl hkey
 rw [(hf key kl hkey).2] at hv
 rw [hrun, (hf key kl hkey).1, iS hv]
theorem MapF.look {w : World} {k t e : TypeId} {b n : Nat} {f : Lit → Option Value} (h : MapF w k b n f) (K : Keyed prog k) (ht : prog.underlying t = some (.map k e)) {z : Value} (hz : (zeroValue e).run prog w = .ok z w)
  {key : Value} {kl : Lit} (hkey : keyOf prog k key = some kl) : (Instr.lookup t (.map (some b)) key false).run prog w = .ok ((f kl).getD z) w := by
 obtain ⟨D, h, hf⟩ := h
 obtain ⟨v, ps, hrun, hv⟩ := h.lookup K ht hz (zd := .held z) (zp := []) rfl hkey
 rw [(hf key kl hkey).2] at hv
 rw [hrun, iS hv]
theorem MapF.store {w : World} {k t e : TypeId} {b n : Nat} {f : Lit → Option Value} (h : MapF w k b n f) (K : Keyed prog k) (ht : prog.underlying t = some (.map k e)) (hn : n < maxLen)
  {key : Value} {kl : Lit} (hkey : keyOf prog k key = some kl) (v : Value) : ∃ w', (Instr.mapUpdate t (.map (some b)) key v).run prog w = .ok () w' ∧ MapF w' k b (n + 1) (upF f kl v) ∧ w.mapTurned w' b := by
 obtain ⟨D, h, hf⟩ := h
 obtain ⟨w', hrun, h', ht'⟩ := h.store K ht hn hkey (val := v) (d := .held v) (ps := []) rfl
 exact ⟨w', hrun, MapF.put K h hf hkey h', ht'⟩
theorem li {w w' : World} {b : Nat} (h : w.mapTurned w' b) : w'.heap.size = w.heap.size := by
 obtain ⟨es, clock, es', clock', hb, rfl⟩ := h; simp [ChangeMaps.setBlock]
theorem bF {w w' : World} {b : Nat} (h : w.mapTurned w' b) (i : Nat) (hi : i ≠ b) : w'.heap[i]? = w.heap[i]? := by
 obtain ⟨es, clock, es', clock', hb, rfl⟩ := h; exact ChangeMaps.heap_setBlock_other hb _ hi
theorem stM {w : World} {ops : Array Oper} {rest : List Oper} {o : Oper} {a : Act} {Q : Exit → Act → World → Prop} (hg : o.guard = none) (m x v : Operand) (t : TypeId) (hop : o.op = Op.mapUpdate t m x v)
  (k e : TypeId) (K : Keyed prog k) (ht : prog.underlying t = some (.map k e)) (b n : Nat) (f : Lit → Option Value) (hm : a.eval m = .map (some b)) (h : MapF w k b n f) (hn : n < maxLen)
  (key val : Value) (kl : Lit) (hx : a.eval x = key) (hv : a.eval v = val) (hkey : keyOf prog k key = some kl)
  (hK : ∀ w', MapF w' k b (n + 1) (upF f kl val) → w.mapTurned w' b → wpList prog ops Q rest (a.put o.dst undef) w') : wpList prog ops Q (o :: rest) a w := by
 refine wpList_plain hg fun K' hK' => ?_
 obtain ⟨w', hrun, r1, r2⟩ := h.store K ht hn hkey val
 unfold Oper.wp
 simp [execOp, hop, hm, hx, hv, hrun, Result.andThen]
 exact hK' _ _ (hK w' r1 r2)
theorem lkM {w : World} {ops : Array Oper} {rest : List Oper} {o : Oper} {a : Act} {Q : Exit → Act → World → Prop} (hg : o.guard = none) (m x : Operand) (t : TypeId) (hop : o.op = Op.lookup t m x true)
  (k e : TypeId) (K : Keyed prog k) (ht : prog.underlying t = some (.map k e)) (z : Value) (hz : (zeroValue e).run prog w = .ok z w) (b n : Nat) (f : Lit → Option Value) (hm : a.eval m = .map (some b)) (h : MapF w k b n f)
  (key : Value) (kl : Lit) (hx : a.eval x = key) (hkey : keyOf prog k key = some kl)
  (hK : wpList prog ops Q rest (a.put o.dst (.tuple #[(f kl).getD z, .bool (f kl).isSome])) w) : wpList prog ops Q (o :: rest) a w := by
 refine wpList_plain hg fun K' hK' => ?_
 have hrun := h.look_ok K ht hz hkey
 unfold Oper.wp
 simp [execOp, hop, hm, hx, hrun, Result.andThen]
 exact hK' _ _ hK
theorem hI_ {p : Prop} (h : p) : Hid p := h
end Go.Proofs.YtjkiplndbcmmbaaGreatDoor