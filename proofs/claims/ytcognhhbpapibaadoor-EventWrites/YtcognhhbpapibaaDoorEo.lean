/- event: what EventNumbers leans on: one number turned gives other bytes. -/
import Derived.Test.YtcognhhbpapibaaDoorEn
namespace Go.Proofs.YtcognhhbpapibaaDoor
open Go.RowKit
set_option linter.unusedVariables false

theorem zz_inj {a b : Int} (h : zz a = zz b) : a = b := by rw [← uz_zz a, ← uz_zz b, h]
theorem flat_inj : ∀ (l1 l2 : List Int) (r1 r2 : List Nat), l1.length = l2.length → l1.flatMap n1 ++ r1 = l2.flatMap n1 ++ r2 → l1 = l2
  | [], [], _, _, _, _ => rfl
  | a :: l1, b :: l2, r1, r2, hl, h => by
    rw [List.flatMap_cons, List.flatMap_cons, List.append_assoc, List.append_assoc] at h
    have e : zz a = zz b := enc_inj_front _ _ (n1 a ++ (l1.flatMap n1 ++ r1)) ⟨_, rfl⟩ ⟨_, h.symm⟩
    have e2 := zz_inj e
    subst e2
    rw [flat_inj l1 l2 r1 r2 (by simpa using hl) (List.append_cancel_left h)]
/-- the event with the number q put to n -/
def E8.turn (x : E8) (q : Nat) (n : Int) : E8 := { x with ns := x.ns.set q n }
theorem turn_ok {x : E8} (h : x.ok) (q : Nat) {n : Int} (hn : I64 n) : (x.turn q n).ok := by
  refine ⟨h.op, h.key, ?_, fun m hm => ?_⟩
  · simp [E8.turn, h.len]
  · rcases List.mem_or_eq_of_mem_set hm with hm | rfl
    · exact h.ns m hm
    · exact hn
theorem turn_form {x : E8} (h : x.form) (q : Nat) (n : Int) (hq : q < ct.getD x.op 0) : (x.turn q n).form := by
  refine ⟨h.lo, h.hi, h.tiers, fun i h1 h2 => ?_⟩
  have := h.zero i h1 h2
  have hne : q ≠ i := by
    intro e
    have h3 : ct.getD (x.turn q n).op 0 = ct.getD x.op 0 := rfl
    omega
  show (x.ns.set q n).getD i 0 = 0
  rw [List.getD_eq_getElem?_getD, List.getElem?_set_ne hne, ← List.getD_eq_getElem?_getD]
  exact this
theorem turn_bytes {x : E8} (h : x.ok) (q : Nat) (n : Int) (hn : I64 n) (hq : q < ct.getD x.op 0) : x.bytes = (x.turn q n).bytes ↔ n = x.ns.getD q 0 := by
  have h8 := ct_le x.op
  have hq8 : q < x.ns.length := by rw [h.len]; omega
  constructor
  · intro e
    rw [E8.bytes_eq h, E8.bytes_eq (turn_ok h q hn)] at e
    have e1 := List.append_cancel_left e
    have e2 := List.append_cancel_left e1
    have e3 := flat_inj _ _ _ _ (by simp [E8.turn]) e2
    have e4 : (x.ns.take (ct.getD x.op 0))[q]? = ((x.ns.set q n).take (ct.getD x.op 0))[q]? := congrArg (fun l => l[q]?) e3
    rw [List.getElem?_take_of_lt hq, List.getElem?_take_of_lt hq, List.getElem?_set_self hq8] at e4
    rw [List.getD_eq_getElem?_getD, e4]
    rfl
  · intro e
    have : x.turn q n = x := by
      unfold E8.turn
      have e2 : x.ns.set q n = x.ns := by
        rw [e, List.getD_eq_getElem?_getD, List.getElem?_eq_getElem hq8]
        simp
      rw [e2]
    rw [this]
theorem cells_ex {x : E8} (h : x.ok) (tv : Value) : x.cells tv = [.int .u8 (x.op : Int), .int .u64 (x.key : Int), .int .i64 (x.ns.getD 0 0), .int .i64 (x.ns.getD 1 0), .int .i64 (x.ns.getD 2 0), .int .i64 (x.ns.getD 3 0), .int .i64 (x.ns.getD 4 0), .int .i64 (x.ns.getD 5 0), .int .i64 (x.ns.getD 6 0), .int .i64 (x.ns.getD 7 0), tv] := by
  have hl := h.len
  unfold E8.cells
  match hx : x.ns, hl with
  | [a, b, c, d, e, f, g, i], _ => rfl
theorem turn_cells {x : E8} (h : x.ok) (q : Nat) (n : Int) (hq : q < 8) (tv : Value) : (x.cells tv).set (2 + q) (.int .i64 n) = (x.turn q n).cells tv := by
  unfold E8.cells E8.turn
  have hl : (x.ns.map (fun n => Value.int .i64 n)).length = 8 := by simp [h.len]
  rw [List.append_assoc, List.set_append_right _ _ (by simp), List.set_append_left _ _ (by simp [h.len]; omega), List.map_set, List.append_assoc]
  simp
end Go.Proofs.YtcognhhbpapibaaDoor
