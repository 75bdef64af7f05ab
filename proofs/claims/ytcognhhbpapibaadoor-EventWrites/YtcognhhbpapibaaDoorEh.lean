/- event: the reader's event, and Read, of an event's bytes. -/
import Derived.Test.YtcognhhbpapibaaDoorEg
namespace Go.Proofs.YtcognhhbpapibaaDoor
open Go.RowKit
set_option linter.unusedVariables false

def n1 (n : Int) : List Nat := enc (zz n)
theorem nbs_eq (ns : List Int) : ∀ k, k ≤ ns.length → nbs ns k = (ns.take k).flatMap n1
  | 0, _ => by simp [nbs]
  | k + 1, h => by
    have e : ns.getD k 0 = ns[k] := by simp [List.getD, List.getElem?_eq_getElem (show k < ns.length by omega)]
    rw [nbs, nbs_eq ns k (by omega), e, List.take_add_one, List.getElem?_eq_getElem (by omega)]
    simp only [Option.toList, List.flatMap_append, List.flatMap_cons, List.flatMap_nil, List.append_nil, n1]
theorem drop_n1 (ns : List Int) (N k : Nat) (hk : k < N) (hN : N ≤ ns.length) : ((ns.take N).drop k).flatMap n1 = n1 (ns.getD k 0) ++ ((ns.take N).drop (k + 1)).flatMap n1 := by
  have h : k < (ns.take N).length := by rw [List.length_take]; omega
  have e : ns.getD k 0 = (ns.take N)[k] := by simp [List.getD, List.getElem?_eq_getElem (show k < ns.length by omega)]
  rw [List.drop_eq_getElem_cons h, List.flatMap_cons, e]
/-- the event with its first k numbers -/
def E8.part (x : E8) (k : Nat) : E8 := { x with ns := x.ns.take k ++ List.replicate (8 - k) 0 }
theorem part_ok {x : E8} (h : x.ok) (k : Nat) (hk : k ≤ 8) : (x.part k).ok := by
  refine ⟨h.op, h.key, ?_, fun n hn => ?_⟩
  · simp [E8.part, h.len]; omega
  · simp only [E8.part] at hn
    rcases List.mem_append.1 hn with hn | hn
    · exact h.ns n (List.mem_of_mem_take hn)
    · have := List.eq_of_mem_replicate hn; omega
theorem part_set {x : E8} (h : x.ok) (k : Nat) (hk : k < 8) (tv : Value) : ((x.part k).cells tv).set (2 + k) (.int .i64 (x.ns.getD k 0)) = (x.part (k + 1)).cells tv := by
  have hl : (x.ns.take k).length = k := by rw [List.length_take, h.len]; omega
  have e : x.ns.getD k 0 = x.ns[k]'(by rw [h.len]; exact hk) := by simp [List.getD, List.getElem?_eq_getElem (show k < x.ns.length by rw [h.len]; exact hk)]
  have e2 : (x.ns.take k ++ List.replicate (8 - k) 0).set k (x.ns.getD k 0) = x.ns.take (k + 1) ++ List.replicate (8 - (k + 1)) 0 := by
    rw [List.set_append_right _ _ (by omega), hl, Nat.sub_self, show 8 - k = 8 - (k + 1) + 1 by omega, List.replicate_succ, List.set_cons_zero, List.take_add_one, List.getElem?_eq_getElem (by rw [h.len]; exact hk), e, List.append_assoc]
    rfl
  unfold E8.cells E8.part
  simp only
  rw [← e2, List.map_set]
  have l2 : ([Value.int .u8 (x.op : Int), Value.int .u64 (x.key : Int)] ++ (x.ns.take k ++ List.replicate (8 - k) 0).map (fun n => Value.int .i64 n)).length = 10 := by simp [h.len]; omega
  rw [List.set_append_left _ _ (by rw [l2]; omega), List.set_append_right _ _ (by simp)]
  simp
theorem part_all {x : E8} (h : x.ok) (hf : x.form) : x.part (ct.getD x.op 0) = x := by
  have hN := ct_le x.op
  have : x.ns.take (ct.getD x.op 0) ++ List.replicate (8 - ct.getD x.op 0) 0 = x.ns := by
    apply List.ext_getElem
    · simp [h.len]; omega
    · intro i h1 h2
      by_cases hi : i < ct.getD x.op 0
      · rw [List.getElem_append_left (by rw [List.length_take, h.len]; omega)]
        simp
      · rw [List.getElem_append_right (by rw [List.length_take]; omega)]
        have := hf.zero i (by omega) (by rw [h.len] at h2; exact h2)
        rw [List.getD_eq_getElem?_getD, List.getElem?_eq_getElem h2] at this
        simp at this ⊢
        exact this.symm
  unfold E8.part
  rw [this]
theorem cells_tv (x : E8) (h : x.ok) (a b : Value) : (x.cells a).set 10 b = x.cells b := by
  unfold E8.cells
  rw [List.set_append_right _ _ (by simp [h.len])]
  simp [h.len]
end Go.Proofs.YtcognhhbpapibaaDoor
