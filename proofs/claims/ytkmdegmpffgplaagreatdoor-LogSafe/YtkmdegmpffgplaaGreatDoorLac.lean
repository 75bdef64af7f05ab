/- A region that draws its order: an operation that yields one value wherever S holds is taken first; the frame is written by its slot. -/
import Derived.Test.YtkmdegmpffgplaaGreatDoorProg
import Derived.WalkKit
import Derived.Deep.RegionHeld3
import Derived.Test.YtkmdegmpffgplaaGreatDoorLaa
namespace Go.Proofs.YtkmdegmpffgplaaGreatDoor
set_option linter.unusedVariables false
theorem takeD {P : Program} {ops : Array Oper} {Q : Exit → Act → World → Prop} {md : Region.Mode} {S : World → Prop} (i d : Nat) (v : Value) {oi : Oper} {fuel : Nat} {listed : Array Bool} {a : Act} {w : World} (hi : ops[i]? = some oi) (hd : oi.dst = some d)
    (hs : Region.noSelect ops = true) (hf : Region.free md ops listed i = true) (hr : (Region.ready md ops listed).contains i = true)
    (hQ : ∀ c a w, Q (.panic c) (a.put (some d) v) w → Q (.panic c) a w) (hy : YieldsIf P ops S oi v a) (hS : S w)
    (h : wpAnyH P md ops Q S fuel (listed.setIfInBounds i true) (a.put (some d) v) w) : wpAnyH P md ops Q S (fuel + 1) listed a w := by
  rw [← hd] at h hQ
  exact wpAnyH_take hi hs hf hr hQ hy hS h
end Go.Proofs.YtkmdegmpffgplaaGreatDoor
/- Rows of elements, II: append of a slice where the operation is guarded. -/
namespace Go.Proofs.YtkmdegmpffgplaaGreatDoor
open Go.RowKit
set_option linter.unusedVariables false

theorem appSw {α : Type} {K : Kd α} {w : World} {ops : Array Oper} {rest : List Oper} {o : Oper} {a : Act} {Q : Exit → Act → World → Prop} (hgd : Region.wanted o (yielded ops a.tmps) = true) (s x : Operand)
    (ho : o.op = .call { callee := .builtin .append, args := #[s, x], argTypes := #[K.S, K.S] })
    (B : Nat) (xs ys : List α) (v u : Value) (hs : a.eval s = v) (hx : a.eval x = u)
    (hown : Own K w B v xs) (hu : Sl K w u ys) (hno : ∀ n c, u = .slice none n c → c = 0) (hB : B ≤ w.heap.size) (hl : (xs.length + ys.length) * K.bt ≤ 140737488355328) (hl2 : xs.length + ys.length ≤ 140737488355328)
    (h : ∀ v' w', Own K w' B v' (xs ++ ys) → Below B w w' → w.grownBy w' v.ownBlock → wpList Tryz.prog ops Q rest (a.put o.dst v') w') :
    wpList Tryz.prog ops Q (o :: rest) a w := by
  obtain ⟨ad, c, rfl, h1, h2, h4⟩ := hu
  refine wpList_step fun KK hK => ?_
  by_cases h0 : ys = []
  · subst h0
    cases ad with
    | none =>
      obtain rfl : c = 0 := hno _ _ rfl
      obtain ⟨i0, z, hi, hz0, hz1, hz2, hz3⟩ := K.info
      rw [if_pos hgd]
      have hrun := run_append_owned_none (P := Tryz.prog) (w := w) B K.S o.type K.T i0 K.k K.und hi v xs.length (K.cells xs) hown.own
      have hx' : a.eval x = .slice none 0 0 := hx
      unfold Oper.wp
      simp [execOp, ho, resolve, invoke, builtin, hs, hx', hrun, Result.andThen]
      exact hK _ _ (h v w (by simpa using hown) (Below.refl _ _) (World.grownBy.refl _ _))
    | some ad =>
      exact appK hgd s x ho B xs [] v ad c hs hx hown (fun j u hj => by simp [Kd.cells] at hj) hB hl hl2 (fun v' w' p q r => hK _ _ (h v' w' p q r))
  · have hp : 0 < ys.length := List.length_pos_iff.2 h0
    obtain ⟨b, off, rfl, hb, hcell⟩ := h4 hp
    refine appK hgd s x ho B xs ys v ⟨b, off, none⟩ c hs hx hown (fun p u hp => ?_) hB hl hl2 (fun v' w' p q r => hK _ _ (h v' w' p q r))
    obtain ⟨i, j, y, rfl, hj, hy, hu⟩ := K.cells_inv ys p u hp
    rw [Go.WideShapes.add_plain, ← Nat.add_assoc]
    exact hcell i y hy j u hu
end Go.Proofs.YtkmdegmpffgplaaGreatDoor
