/- The document's long numbers: rows that a call makes itself (make, append); the contract of Plus. -/
import Derived.Test.YtlhlmclogfmhmaaDoorUc
namespace Go.Proofs.YtlhlmclogfmhmaaDoor.lg
open Go.RowKit
set_option linter.unusedVariables false

theorem info64 : (Tryd.prog.info? 41).map (fun i => (i.zero, i.size, i.bytes)) = some (some (.int .u64 0), 1, 8) := by kernel_rfl
/-- digits as cells -/
def cl (cs : List Nat) : List Value := cs.map fun (d : Nat) => Value.int .u64 (d : Int)
theorem cl_snoc (cs : List Nat) (d : Nat) : cl cs ++ [.int .u64 (d : Int)] = cl (cs ++ [d]) := by simp [cl]
theorem cl_get (cs : List Nat) (k : Nat) (h : k < cs.length) : (cl cs)[k]? = some (.int .u64 (dg cs k)) := by simp [cl, dg, h]
/-- The row v of the call's own holds the digits cs. -/
structure Owns (w : World) (B : Nat) (v : Value) (cs : List Nat) : Prop where
  own : w.ownsRow B 41 1 v cs.length (cl cs)
theorem owns_nil (w : World) (B : Nat) : Owns w B (.slice none 0 0) [] := ⟨World.ownsRow_nil _ _ _ _⟩
theorem Owns.row {w : World} {B : Nat} {v : Value} {cs : List Nat} (h : Owns w B v cs) (hm : cs.length ≤ 200) : Row w v cs := by
  obtain ⟨hl, h2⟩ := h.own
  rcases h2 with ⟨rfl, h0⟩ | ⟨g, cap, cur, rfl, hb, hg, hcap, hcm, hcs, htk⟩
  · exact ⟨hm, none, 0, by rw [h0], by omega, fun h => by omega⟩
  · refine ⟨hm, _, cap, rfl, hcap, fun h0 => ⟨g, 0, rfl, ⟨?_, cur, _, hg⟩, fun k hk => ?_⟩⟩
    · rcases Nat.lt_or_ge g w.heap.size with hlt | hge
      · exact hlt
      · rw [Array.getElem?_eq_none hge] at hg; cases hg
    · have ho : w.ownsRow B 41 1 (.slice (some ⟨g, 0, none⟩) cs.length cap) cs.length (cl cs) := ⟨hl, Or.inr ⟨g, cap, cur, rfl, hb, hg, hcap, hcm, hcs, htk⟩⟩
      rw [Nat.zero_add, ho.cellAt k (by omega), cl_get cs k hk]
theorem Owns.block {w : World} {B : Nat} {v : Value} {cs : List Nat} (h : Owns w B v cs) : ∀ k, v.ownBlock = some k → B ≤ k := by
  obtain ⟨hl, h2⟩ := h.own
  rcases h2 with ⟨rfl, h0⟩ | ⟨g, cap, cur, rfl, hb, _⟩
  · intro k hk; simp [Value.ownBlock] at hk
  · intro k hk; simp [Value.ownBlock] at hk; omega
theorem app1 {w : World} {ops : Array Oper} {rest : List Oper} {o : Oper} {a : Act} {Q : Exit → Act → World → Prop} {T : TypeId} (hgd : o.guard = none) (s x : Operand)
    (ho : o.op = .call { callee := .builtin .append, args := #[s, x], argTypes := #[47, 47] })
    (B : Nat) (cs : List Nat) (v : Value) (d : Int) (hs : a.eval s = v) (hx : a.eval x = .slice (some ⟨w.heap.size, 0, none⟩) 1 1) (hd : 0 ≤ d)
    (hown : Owns w B v cs) (hB : B ≤ w.heap.size) (hl : cs.length ≤ 300)
    (h : ∀ v' w', Owns w' B v' (cs ++ [d.toNat]) → Below B w w' → wpList Tryd.prog ops Q rest (a.put o.dst v') w') :
    wpList Tryd.prog ops Q (o :: rest) a (w.alloc (.cells #[.int .u64 d] T)) := by
  obtain ⟨i0, hi, hz0, hz1, hz2⟩ := info_parts info64
  refine wpList_append_own _ hgd s x 47 ho B 41 i0 (.int .u64 0) 1 8 Tryd.underlying47 hi hz0 hz1 hz2 rfl (by decide) v cs.length (cl cs) hs (hown.own.alloc _) ⟨w.heap.size, 0, none⟩ 1 1 [.int .u64 d] hx rfl ?_ ?_ ?_ ?_ ?_ ?_
  · intro j u hj
    match j, hj with
    | 0, hj => simp at hj; subst hj; simp [Addr.add]
  · intro u hu; simp at hu; subst hu; rfl
  · unfold maxLen; omega
  · omega
  · simp; omega
  · intro v' w' hown' hgrow _
    refine h v' w' ?_ ?_
    · have e : cl cs ++ [.int .u64 d] = cl (cs ++ [d.toNat]) := by rw [← cl_snoc, Int.toNat_of_nonneg hd]
      refine ⟨?_⟩
      rw [List.length_append, List.length_singleton, ← e]
      exact hown'
    · exact ((Below.refl _ _).alloc hB _).grown hgrow (by simp; omega) hown.block

theorem getD_past {ds : List Nat} {k : Nat} (h : ds.length ≤ k) : ds.getD k 0 = 0 := by simp [h]
theorem plus_carry (q x y : Nat) (hq : q ≤ 1) (hx : x < 4294967296) (hy : y < 4294967296) : (q + x + y) / 4294967296 ≤ 1 := by omega
end Go.Proofs.YtlhlmclogfmhmaaDoor.lg
