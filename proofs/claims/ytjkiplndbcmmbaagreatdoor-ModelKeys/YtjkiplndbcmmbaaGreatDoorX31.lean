/- texts of the model: Hf -/
import Derived.Test.YtjkiplndbcmmbaaGreatDoorX30
import Derived.Laws.OwnMore
set_option linter.unusedVariables false
set_option linter.unusedSimpArgs false
set_option maxHeartbeats 16000000
namespace Go.Proofs.YtjkiplndbcmmbaaGreatDoor
open Go.RowKit Go.Shelf
def pcs (cs : List (PV × Value)) : List Value := cs.flatMap fun c => c.1.cells c.2
theorem sj (cs : List (PV × Value)) : (pcs cs).length = cs.length * 9 := by
 induction cs with
 | nil => rfl
 | cons c cs ih =>
  show (c.1.cells c.2 ++ pcs cs).length = _
  rw [List.length_append, ih, PV.len, List.length_cons]
  omega
theorem sh (a b : List (PV × Value)) : pcs (a ++ b) = pcs a ++ pcs b := by simp [pcs]
theorem si (cs : List (PV × Value)) : ∀ k (hk : k < cs.length) j u, (cs[k].1.cells cs[k].2)[j]? = some u → (pcs cs)[k * 9 + j]? = some u := by
 induction cs with
 | nil => intro k hk; simp at hk
 | cons c cs ih =>
  intro k hk j u hj
  show (c.1.cells c.2 ++ pcs cs)[k * 9 + j]? = some u
  cases k with
  | zero =>
   have hl : j < 9 := by
    have := (List.getElem?_eq_some_iff.1 hj).1
    simpa [PV.len] using this
   rw [Nat.zero_mul, Nat.zero_add, List.getElem?_append_left (by rw [PV.len]; exact hl)]
   exact hj
  | succ k =>
   rw [List.getElem?_append_right (by rw [PV.len]; omega), PV.len, show (k + 1) * 9 + j - 9 = k * 9 + j by omega]
   exact ih k (by simpa using hk) j u (by simpa using hj)
structure OwnP (w : World) (B : Nat) (T : TypeId) (v : Value) (cs : List (PV × Value)) : Prop where
 form : ∀ c ∈ cs, ∃ a n k, c.2 = Value.slice a n k
 own : w.ownsRow B T 9 v cs.length (pcs cs)
theorem OwnP.block {w : World} {B : Nat} {T : TypeId} {v : Value} {cs : List (PV × Value)} (h : OwnP w B T v cs) : ∀ k, v.ownBlock = some k → B ≤ k := by
 obtain ⟨hl, h2⟩ := h.own
 rcases h2 with ⟨rfl, h0⟩ | ⟨g, cap, cur, rfl, hb, _⟩
 ·intro k hk; simp [Value.ownBlock] at hk
 ·intro k hk; simp [Value.ownBlock] at hk; omega
theorem OwnP.step {w w' : World} {B : Nat} {T : TypeId} {v : Value} {cs : List (PV × Value)} (h : OwnP w B T v cs) (k : Below w.heap.size w w') : OwnP w' B T v cs := by
 refine ⟨h.form, h.own.1, ?_⟩
 rcases h.own.2 with h2 | ⟨g, cap, cur, e, hb, hg, r⟩
 ·exact Or.inl h2
 ·have hlt : g < w.heap.size := by
   rcases Nat.lt_or_ge g w.heap.size with hlt | hge
   ·exact hlt
   ·rw [Array.getElem?_eq_none hge] at hg; cases hg
  exact Or.inr ⟨g, cap, cur, e, hb, (k.block g hlt).trans hg, r⟩
theorem sk {cs : List (PV × Value)} (h : ∀ c ∈ cs, ∃ a n k, c.2 = Value.slice a n k) {u : Value} (hu : u ∈ pcs cs) : u.oneCell' = true := by
 unfold pcs at hu
 obtain ⟨c, hc, hu⟩ := List.mem_flatMap.1 hu
 exact bI c.1 (h c hc) u hu
def ZP : Value := .agg #[.int .i64 0, .int .i64 0, .int .i64 0, .int .i64 0, .int .i64 0, .int .i64 0, .int .i64 0, .int .i64 0, .slice none 0 0]
def PT (TS T : TypeId) : Prop := Tryz.prog.underlying TS = some (.slice T) ∧ ∃ i, Tryz.prog.info? T = some i ∧ i.zero = some ZP ∧ i.size = 9 ∧ i.bytes = 88
theorem uo : (Tryz.prog.info? 162).map (fun i => (i.zero, i.size, i.bytes)) = some (some ZP, 9, 88) := by kernel_rfl
theorem ptP : PT 221 162 := by
 obtain ⟨i, hi, hz⟩ := Option.map_eq_some_iff.1 uo
 simp only [Prod.mk.injEq] at hz
 exact ⟨Tryz.underlying221, i, hi, hz.1, hz.2.1, hz.2.2⟩
theorem vm {w : World} {o : Oper} {a : Act} {Q : Exit → Act → World → Prop} {K : Act → World → Prop} (s x : Operand) (TS T : TypeId) (pt : PT TS T)
  (ho : o.op = .call { callee := .builtin .append, args := #[s, x], argTypes := #[TS, TS] })
  (B : Nat) (cs bs : List (PV × Value)) (v : Value) (ad : Addr) (n c : Nat) (hs : a.eval s = v) (hx : a.eval x = .slice (some ad) n c) (hn : n = bs.length)
  (hown : OwnP w B T v cs) (hb : ∀ c ∈ bs, ∃ a n k, c.2 = Value.slice a n k) (hcell : ∀ j u, (pcs bs)[j]? = some u → w.cell? (ad.add j) = some u) (hB : B ≤ w.heap.size) (hl : cs.length + bs.length ≤ 1000)
  (h : ∀ v' w', OwnP w' B T v' (cs ++ bs) → Below B w w' → w.grownBy w' v.ownBlock → K (a.put o.dst v') w') : o.wp Tryz.prog a w K Q := by
 obtain ⟨hu, i0, hi, hz0, hz1, hz2⟩ := pt
 subst hn
 refine wp_append_own _ s x TS ho B T i0 ZP 9 88 hu hi hz0 hz1 hz2 rfl (by decide) v cs.length (pcs cs) hs hown.own ad bs.length c (pcs bs) hx (sj bs) hcell (fun u hu => sk hb hu) (by unfold maxLen; omega) (by omega) hB (fun v' w' g1 g2 _ => h v' w' ⟨fun t ht => ?_, ?_⟩ ((Below.refl _ _).grown g2 hB hown.block) g2)
 ·rcases List.mem_append.1 ht with ht | ht
  ·exact hown.form t ht
  ·exact hb t ht
 ·rw [List.length_append, sh]
  exact g1
end Go.Proofs.YtjkiplndbcmmbaaGreatDoor