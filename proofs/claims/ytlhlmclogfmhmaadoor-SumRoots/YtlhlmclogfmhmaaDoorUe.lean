/- The document's long numbers: rows that are made whole; the contracts of Minus, Times. -/
import Derived.Test.YtlhlmclogfmhmaaDoorUd
namespace Go.Proofs.YtlhlmclogfmhmaaDoor.lg
open Go.RowKit
set_option linter.unusedVariables false

theorem mk1 {w : World} {ops : Array Oper} {rest : List Oper} {o : Oper} {a : Act} {Q : Exit → Act → World → Prop} (hgd : o.guard = none) (l c : Operand) (ho : o.op = Op.makeSlice 47 l c)
    (n : Nat) (L C : Int) (hl : a.eval l = .int .i64 L) (hc : a.eval c = .int .i64 C) (hL : L = n) (hC : C = n) (hn : n ≤ 300)
    (h : ∀ w', Owns w' w.heap.size (.slice (some ⟨w.heap.size, 0, none⟩) n n) (List.replicate n 0) → Below w.heap.size w w' → wpList Tryd.prog ops Q rest (a.put o.dst (.slice (some ⟨w.heap.size, 0, none⟩) n n)) w') :
    wpList Tryd.prog ops Q (o :: rest) a w := by
  obtain ⟨i0, hi, hz0, hz1, hz2⟩ := info_parts info64
  refine wpList_make_full w hgd l c 47 ho w.heap.size 41 i0 (.int .u64 0) 1 Tryd.underlying47 hi hz0 hz1 .i64 .i64 L C n hl hc hL hC (by rw [hz2]; omega) (by unfold maxLen; omega) (Nat.le_refl _) ?_
  intro w' hown hg
  refine h w' ?_ ((Below.refl _ _).grown hg (Nat.le_refl _) (fun k hk => by cases hk))
  have e : (madeCells (Value.int .u64 0).cells (n * 1)).toList = cl (List.replicate n 0) := by
    rw [Nat.mul_one]
    show (madeCells #[Value.int .u64 0] n).toList = _
    rw [toList_madeCells_one]
    simp [cl]
  refine ⟨?_⟩
  rw [List.length_replicate, ← e]
  exact hown
theorem Owns.set {w : World} {B g n : Nat} {cs : List Nat} (h : Owns w B (.slice (some ⟨g, 0, none⟩) n n) cs) (hl : cs.length = n) (j : Nat) (d : Int) (hd : 0 ≤ d) :
    Owns (w.setCell ⟨g, j, none⟩ (.int .u64 d)) B (.slice (some ⟨g, 0, none⟩) n n) (cs.set j d.toNat) := by
  subst hl
  have := (World.ownsRow.stored h.own j (.int .u64 d)).1
  refine ⟨?_⟩
  rw [List.length_set]
  have e : cl (cs.set j d.toNat) = (cl cs).set j (.int .u64 d) := by simp [cl, List.map_set, Int.toNat_of_nonneg hd]
  rw [e]
  exact this
theorem Owns.cell {w : World} {B g n : Nat} {cs : List Nat} (h : Owns w B (.slice (some ⟨g, 0, none⟩) n n) cs) (hl : cs.length = n) (j : Nat) (hj : j < n) : w.cell? ⟨g, j, none⟩ = some (.int .u64 (dg cs j)) := by
  subst hl
  rw [World.ownsRow.cellAt h.own j (by omega), cl_get cs j hj]
theorem Owns.free {w : World} {B g n : Nat} {cs : List Nat} (h : Owns w B (.slice (some ⟨g, 0, none⟩) n n) cs) (hl : cs.length = n) (j : Nat) : w.frozen? ⟨g, j, none⟩ = false := by
  subst hl
  exact World.ownsRow.frozenAt h.own j
theorem val_set_take (cs : List Nat) (k d : Nat) (h : k < cs.length) : val ((cs.set k d).take (k + 1)) = val (cs.take k) + pw k * d := by
  rw [val_take_succ _ k (by simpa using h)]
  have e1 : (cs.set k d).take k = cs.take k := by rw [List.take_set]; exact List.set_eq_of_length_le (by rw [List.length_take]; omega)
  have e2 : (cs.set k d).getD k 0 = d := by simp [h]
  rw [e1, e2]
theorem Owns.len {w : World} {B g n c : Nat} {cs : List Nat} (h : Owns w B (.slice (some ⟨g, 0, none⟩) n c) cs) : cs.length = n := by
  obtain ⟨_, h2⟩ := h.own
  rcases h2 with ⟨h, _⟩ | ⟨g', cap, cur, h, _⟩
  · cases h
  · injection h with _ h _; exact h.symm
theorem minus_stp (p A C b x y s X : Nat) (hX : X + b + y = x + 4294967296) (h : s + C = A + p * b) :
    s + p * (X % 4294967296) + (C + p * y) + (4294967296 * p) * (X / 4294967296) = (A + p * x) + 4294967296 * p := by
  have e := Nat.div_add_mod X 4294967296
  generalize X % 4294967296 = m at *
  generalize X / 4294967296 = q at *
  subst e
  have h1 : p * (4294967296 * q + m + b + y) = p * (x + 4294967296) := by rw [hX]
  simp only [Nat.mul_add] at h1
  rw [Nat.mul_comm 4294967296 p, Nat.mul_assoc]
  omega
theorem minus_last (S q' z P V E D : Nat) (hz : z ≤ 1) (hq : q' + z = 1) (R : S + E + P * z = D + P) : S + E = D + P * q' := by
  rcases (show z = 0 ∨ z = 1 by omega) with rfl | rfl
  · obtain rfl : q' = 1 := by omega
    omega
  · obtain rfl : q' = 0 := by omega
    omega
theorem minus_digits (x y : Int) (q X : Nat) (hX : (X : Int) + q + y = x + 4294967296) : (x + 4294967296 - (q : Int) - y) % 4294967296 = ((X % 4294967296 : Nat) : Int) ∧ (x + 4294967296 - (q : Int) - y) / 4294967296 = ((X / 4294967296 : Nat) : Int) := by
  have : x + 4294967296 - (q : Int) - y = X := by omega
  rw [this]
  exact ⟨rfl, rfl⟩
theorem minus_all (ds es cs : List Nat) (k q : Nat) (hq : q ≤ 1) (hd : Sm ds) (he : Sm es) (hk : k < cs.length) (h : val (cs.take k) + val (es.take k) = val (ds.take k) + pw k * q) :
    ∃ d q' : Nat, d < 4294967296 ∧ q' ≤ 1 ∧ (dg ds k + 4294967296 - (q : Int) - dg es k) % 4294967296 = d ∧ 1 - (dg ds k + 4294967296 - (q : Int) - dg es k) / 4294967296 = q' ∧
      val ((cs.set k d).take (k + 1)) + val (es.take (k + 1)) = val (ds.take (k + 1)) + pw (k + 1) * q' := by
  have s1 := sm_getD k hd
  have s2 := sm_getD k he
  obtain ⟨X, hX⟩ : ∃ X, X + q + es.getD k 0 = ds.getD k 0 + 4294967296 := by
    obtain ⟨X, hX⟩ := Nat.exists_eq_add_of_le (show q + es.getD k 0 ≤ ds.getD k 0 + 4294967296 by omega)
    exact ⟨X, by omega⟩
  have R := minus_stp (pw k) (val (ds.take k)) (val (es.take k)) q (ds.getD k 0) (es.getD k 0) (val (cs.take k)) X hX h
  rw [← val_take_step, ← val_take_step, ← pw_succ] at R
  have hz : X / 4294967296 ≤ 1 := by omega
  obtain ⟨q', hq'⟩ : ∃ q', q' + X / 4294967296 = 1 := by
    rcases (show X / 4294967296 = 0 ∨ X / 4294967296 = 1 by omega) with e | e
    · exact ⟨1, by omega⟩
    · exact ⟨0, by omega⟩
  obtain ⟨e1, e2⟩ := minus_digits (dg ds k) (dg es k) q X (by unfold dg; omega)
  refine ⟨X % 4294967296, q', by omega, by omega, e1, by rw [e2]; omega, ?_⟩
  rw [val_set_take cs k _ hk]
  exact minus_last _ q' (X / 4294967296) _ 0 _ _ hz hq' R
theorem minus_all0 (ds es cs : List Nat) (k q : Nat) (hq : q ≤ 1) (hd : Sm ds) (he : Sm es) (hk : k < cs.length) (hz : es.length ≤ k) (h : val (cs.take k) + val (es.take k) = val (ds.take k) + pw k * q) :
    ∃ d q' : Nat, d < 4294967296 ∧ q' ≤ 1 ∧ (dg ds k + 4294967296 - (q : Int)) % 4294967296 = d ∧ 1 - (dg ds k + 4294967296 - (q : Int)) / 4294967296 = q' ∧
      val ((cs.set k d).take (k + 1)) + val (es.take (k + 1)) = val (ds.take (k + 1)) + pw (k + 1) * q' := by
  have := minus_all ds es cs k q hq hd he hk h
  have e : dg es k = 0 := by unfold dg; rw [getD_past hz]; rfl
  rw [e, Int.sub_zero] at this
  exact this
end Go.Proofs.YtlhlmclogfmhmaaDoor.lg
