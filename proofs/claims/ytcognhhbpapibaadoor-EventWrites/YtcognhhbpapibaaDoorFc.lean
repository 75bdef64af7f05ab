/- event: no event's bytes are the front of another's. -/
import Derived.Test.YtcognhhbpapibaaDoorFb
namespace Go.Proofs.YtcognhhbpapibaaDoor
open Go.RowKit
set_option linter.unusedVariables false

theorem flat2_inj : ∀ (l1 l2 : List (Int × Int)) (r1 r2 : List Nat), l1.length = l2.length → l1.flatMap t2 ++ r1 = l2.flatMap t2 ++ r2 → l1 = l2
  | [], [], _, _, _, _ => rfl
  | a :: l1, b :: l2, r1, r2, hl, h => by
    rw [List.flatMap_cons, List.flatMap_cons, List.append_assoc, List.append_assoc] at h
    unfold t2 at h
    rw [List.append_assoc, List.append_assoc] at h
    have e : zz a.1 = zz b.1 := enc_inj_front _ _ (enc (zz a.1) ++ (enc (zz a.2) ++ (l1.flatMap t2 ++ r1))) ⟨_, rfl⟩ ⟨_, h.symm⟩
    have e2 := zz_inj e
    rw [e2] at h
    have h3 := List.append_cancel_left h
    have e3 : zz a.2 = zz b.2 := enc_inj_front _ _ (enc (zz a.2) ++ (l1.flatMap t2 ++ r1)) ⟨_, rfl⟩ ⟨_, h3.symm⟩
    have e4 := zz_inj e3
    rw [e4] at h3
    have e5 : a = b := Prod.ext e2 e4
    rw [e5, flat2_inj l1 l2 r1 r2 (by simpa using hl) (List.append_cancel_left h3)]
/-- no event's bytes are the front of another's -/
theorem bytes_free {x y : E8} (hx : x.good) (hy : y.good) {r s : List Nat} (h : x.bytes ++ r = y.bytes ++ s) : x = y := by
  rw [E8.bytes_eq hx.ok, E8.bytes_eq hy.ok] at h
  rw [List.append_assoc, List.append_assoc, List.append_assoc, List.append_assoc, List.append_assoc, List.append_assoc] at h
  obtain ⟨ho, h⟩ := List.cons.inj h
  change enc x.key ++ _ = enc y.key ++ _ at h
  have hk : x.key = y.key := enc_inj_front _ _ _ ⟨_, rfl⟩ ⟨_, h.symm⟩
  rw [hk] at h
  have g1 := List.append_cancel_left h
  have hN := ct_le y.op
  have hn : x.ns.take (ct.getD x.op 0) = y.ns.take (ct.getD y.op 0) := flat_inj _ _ _ _ (by rw [List.length_take, List.length_take, hx.ok.len, hy.ok.len, ho]) g1
  have hns : x.ns = y.ns := by
    have e1 := part_all hx.ok hx.form
    have e2 := part_all hy.ok hy.form
    have f1 : x.ns = x.ns.take (ct.getD x.op 0) ++ List.replicate (8 - ct.getD x.op 0) 0 := (congrArg E8.ns e1).symm
    have f2 : y.ns = y.ns.take (ct.getD y.op 0) ++ List.replicate (8 - ct.getD y.op 0) 0 := (congrArg E8.ns e2).symm
    rw [f1, f2, hn, ho]
  rw [hn] at g1
  have g2 := List.append_cancel_left g1
  have hts : x.ts = y.ts := by
    by_cases h1 : y.op = 1
    · rw [if_pos (ho.trans h1), if_pos h1] at g2
      simp only [List.append_nil, List.append_assoc] at g2
      have hl : x.ts.length = y.ts.length := enc_inj_front _ _ _ ⟨_, rfl⟩ ⟨_, g2.symm⟩
      rw [hl] at g2
      exact flat2_inj _ _ _ _ hl (List.append_cancel_left g2)
    · have a1 := hx.form.tiers
      have a2 := hy.form.tiers
      unfold most at a1 a2
      rw [if_neg (by rw [ho]; exact h1)] at a1
      rw [if_neg h1] at a2
      rw [List.eq_nil_of_length_eq_zero (Nat.le_zero.1 a1), List.eq_nil_of_length_eq_zero (Nat.le_zero.1 a2)]
  obtain ⟨xo, xk, xn, xt⟩ := x
  obtain ⟨yo, yk, yn, yt⟩ := y
  simp only at ho hk hns hts
  rw [ho, hk, hns, hts]
theorem bytes_iff {x y : E8} (hx : x.good) (hy : y.good) : x.bytes = y.bytes ↔ x = y := ⟨fun e => bytes_free hx hy (r := []) (s := []) (by rw [e]), fun e => by rw [e]⟩
theorem bytes_cut {x y : E8} (hx : x.good) (hy : y.good) {k : Nat} (hk : k < x.bytes.length) : y.bytes ≠ x.bytes.take k := fun e => by
  have h : y.bytes ++ x.bytes.drop k = x.bytes ++ [] := by rw [e, List.take_append_drop, List.append_nil]
  have := bytes_free hy hx h
  rw [this] at e
  have := congrArg List.length e
  rw [List.length_take] at this
  omega
theorem bytes_more {x y : E8} (hx : x.good) (hy : y.good) {m : List Nat} (hm : m ≠ []) : y.bytes ≠ x.bytes ++ m := fun e => by
  have h : y.bytes ++ [] = x.bytes ++ m := by rw [e, List.append_nil]
  have := bytes_free hy hx h
  rw [this] at e
  have := congrArg List.length e
  rw [List.length_append] at this
  exact hm (List.eq_nil_of_length_eq_zero (by omega))
end Go.Proofs.YtcognhhbpapibaaDoor
