/- money's sort: two ranges exchanged, a rotation. -/
import Derived.Test.YtbgglghapjfdeaaDoorSsa
import Derived.Test.YtbgglghapjfdeaaDoorGy
import Derived.Deep.DeepCutAuto
namespace Go.Proofs.YtbgglghapjfdeaaDoor
open Go.RowKit
set_option linter.unusedVariables false

/-- all blocks but q are as they were; new ones may be there -/
structure Qx (q : Nat) (w w' : World) : Prop where
  os : w'.os = w.os
  tape : w'.tape = w.tape
  output : w'.output = w.output
  size : w.heap.size ≤ w'.heap.size
  block : ∀ k, k < w.heap.size → k ≠ q → w'.heap[k]? = w.heap[k]?
theorem Qx.refl (q : Nat) (w : World) : Qx q w w := ⟨rfl, rfl, rfl, Nat.le_refl _, fun _ _ _ => rfl⟩
theorem Qx.trans {q : Nat} {a b c : World} (h : Qx q a b) (k : Qx q b c) : Qx q a c := ⟨k.os.trans h.os, k.tape.trans h.tape, k.output.trans h.output, Nat.le_trans h.size k.size, fun i hi hne => (k.block i (Nat.lt_of_lt_of_le hi h.size) hne).trans (h.block i hi hne)⟩
theorem Qx.of_bel {q : Nat} {a c : World} (k : Below a.heap.size a c) : Qx q a c := ⟨k.os, k.tape, k.output, k.size, fun i hi _ => k.block i hi⟩
theorem Qx.of_upd {q : Nat} {a c : World} (k : Upd q a c) : Qx q a c := ⟨k.os, k.tape, k.output, Nat.le_of_eq k.size.symm, fun i _ hne => k.block i hne⟩
theorem Qx.bel {q B : Nat} {w0 a b : World} (h : Below B w0 a) (k : Qx q a b) (hq : B ≤ q) (hB : B ≤ a.heap.size) : Below B w0 b := ⟨k.os.trans h.os, k.tape.trans h.tape, k.output.trans h.output, Nat.le_trans h.size k.size, fun i hi => (k.block i (by omega) (by omega)).trans (h.block i hi)⟩
theorem VA.qx {w w' : World} {p q : Nat} {cs : List Value} {T : TypeId} (h : VA w p cs T) (k : Qx q w w') (hq : p ≠ q) : VA w' p cs T := ⟨by rw [k.block p h.lt hq]; exact h.blk⟩
set_option maxHeartbeats 4000000 in
set_option maxRecDepth 100000 in
theorem swr_ok (q n a b k : Nat) (f : Nat → Nat) (cv : Value) (w : World) (V : VA w q (row f n) 3) (h1 : a + k ≤ b) (h2 : b + k ≤ n) (h3 : n ≤ 1000000) :
    Calls Tryd.prog 58 #[.slice (some ⟨q, 0, none⟩) n n, .int .i64 (a : Int), .int .i64 (b : Int), .int .i64 (k : Int), cv] w fun e w' => e = .returned (.tuple #[]) ∧ VA w' q (row (sr f a b k) n) 3 ∧ Qx q w w' := by
  have HV0 := (show Hid _ from V)
  clear V
  go_enter Tryd.func58, Tryd.ntmps58
  go_wp2_with fail
  go_loopw [10] (fun i wr => ∃ j : Nat, j ≤ k ∧ i = .int .i64 (j : Int) ∧ Hid (VA wr q (row (sr f a b j) n) 3) ∧ Hid (Qx q w wr)) (fun i _ => k - (intOf i).toNat)
  case atStart => exact ⟨0, by omega, rfl, by rw [sr_zero]; exact HV0.out, Qx.refl _ _⟩
  case round =>
    obtain ⟨j, hj, rfl, HV, HU⟩ := hrel
    clear HV0
    by_cases hjk : j = k
    · subst hjk
      go_wp2_with fail
      exact bodyPost_end (v := .tuple #[]) (by simp [results, Tryd.results58, go_sem]) rfl ⟨rfl, HV.out, HU.out⟩
    have hj' : j < k := by omega
    obtain ⟨X, hX⟩ : ∃ X : Nat, a + j = X := ⟨_, rfl⟩
    obtain ⟨Y, hY⟩ : ∃ Y : Nat, b + j = Y := ⟨_, rfl⟩
    have HX : Hid ((a : Int) + (j : Int) = (X : Int)) := by show _ = _; omega
    have HY : Hid ((b : Int) + (j : Int) = (Y : Int)) := by show _ = _; omega
    have HXE := (show Hid _ from hX)
    have HYE := (show Hid _ from hY)
    have HXN : Hid (X < n) := by show X < n; omega
    have HYN : Hid (Y < n) := by show Y < n; omega
    have HXY : Hid (¬ X = Y) := by show ¬ X = Y; omega
    have x1 : (0 : Int) ≤ (X : Int) := by omega
    have x2 : (X : Int) < (n : Int) := by omega
    have y1 : (0 : Int) ≤ (Y : Int) := by omega
    have y2 : (Y : Int) < (n : Int) := by omega
    clear hX hY
    go_upto_region 3 with fail
    refine wp_region_noPanic ?_
    refine wp_region_held_drew (S := fun w' => True) (by kernel_rfl) trivial (fun hHeld => ?_)
    refine takeD 0 16 (.slice (some ⟨q, 0, none⟩) n n) (by exact rfl) rfl (by kernel_rfl) (by kernel_rfl) (by kernel_rfl) (fun _ _ _ h => h) (Or.inl ⟨by rfl, ?_⟩) (by assumption) ?_
    · intro wq hS
      go_simp
    try simp only [Act.put, List.setIfInBounds_toArray, List.set_cons_zero, List.set_cons_succ]
    refine takeD 1 17 (.int .i64 (a : Int)) (by exact rfl) rfl (by kernel_rfl) (by kernel_rfl) (by kernel_rfl) (fun _ _ _ h => h) (Or.inl ⟨by rfl, ?_⟩) (by assumption) ?_
    · intro wq hS
      go_simp
    try simp only [Act.put, List.setIfInBounds_toArray, List.set_cons_zero, List.set_cons_succ]
    refine takeD 2 18 (.int .i64 (j : Int)) (by exact rfl) rfl (by kernel_rfl) (by kernel_rfl) (by kernel_rfl) (fun _ _ _ h => h) (Or.inl ⟨by rfl, ?_⟩) (by assumption) ?_
    · intro wq hS
      go_simp
    try simp only [Act.put, List.setIfInBounds_toArray, List.set_cons_zero, List.set_cons_succ]
    refine takeD 3 19 (.int .i64 (X : Int)) (by exact rfl) rfl (by kernel_rfl) (by kernel_rfl) (by kernel_rfl) (fun _ _ _ h => h) (Or.inl ⟨by rfl, ?_⟩) (by assumption) ?_
    · intro wq hS
      have q3 := HX.out
      go_simp
      rw [IntKind.wrap_i64]; omega
    try simp only [Act.put, List.setIfInBounds_toArray, List.set_cons_zero, List.set_cons_succ]
    refine takeD 4 20 (.slice (some ⟨q, 0, none⟩) n n) (by exact rfl) rfl (by kernel_rfl) (by kernel_rfl) (by kernel_rfl) (fun _ _ _ h => h) (Or.inl ⟨by rfl, ?_⟩) (by assumption) ?_
    · intro wq hS
      go_simp
    try simp only [Act.put, List.setIfInBounds_toArray, List.set_cons_zero, List.set_cons_succ]
    refine takeD 5 21 (.int .i64 (b : Int)) (by exact rfl) rfl (by kernel_rfl) (by kernel_rfl) (by kernel_rfl) (fun _ _ _ h => h) (Or.inl ⟨by rfl, ?_⟩) (by assumption) ?_
    · intro wq hS
      go_simp
    try simp only [Act.put, List.setIfInBounds_toArray, List.set_cons_zero, List.set_cons_succ]
    refine takeD 6 22 (.int .i64 (j : Int)) (by exact rfl) rfl (by kernel_rfl) (by kernel_rfl) (by kernel_rfl) (fun _ _ _ h => h) (Or.inl ⟨by rfl, ?_⟩) (by assumption) ?_
    · intro wq hS
      go_simp
    try simp only [Act.put, List.setIfInBounds_toArray, List.set_cons_zero, List.set_cons_succ]
    refine takeD 7 23 (.int .i64 (Y : Int)) (by exact rfl) rfl (by kernel_rfl) (by kernel_rfl) (by kernel_rfl) (fun _ _ _ h => h) (Or.inl ⟨by rfl, ?_⟩) (by assumption) ?_
    · intro wq hS
      have q3 := HY.out
      go_simp
      rw [IntKind.wrap_i64]; omega
    try simp only [Act.put, List.setIfInBounds_toArray, List.set_cons_zero, List.set_cons_succ]
    refine takeD 8 24 (.slice (some ⟨q, 0, none⟩) n n) (by exact rfl) rfl (by kernel_rfl) (by kernel_rfl) (by kernel_rfl) (fun _ _ _ h => h) (Or.inl ⟨by rfl, ?_⟩) (by assumption) ?_
    · intro wq hS
      go_simp
    try simp only [Act.put, List.setIfInBounds_toArray, List.set_cons_zero, List.set_cons_succ]
    refine takeD 9 25 (.int .i64 (b : Int)) (by exact rfl) rfl (by kernel_rfl) (by kernel_rfl) (by kernel_rfl) (fun _ _ _ h => h) (Or.inl ⟨by rfl, ?_⟩) (by assumption) ?_
    · intro wq hS
      go_simp
    try simp only [Act.put, List.setIfInBounds_toArray, List.set_cons_zero, List.set_cons_succ]
    refine takeD 10 26 (.int .i64 (j : Int)) (by exact rfl) rfl (by kernel_rfl) (by kernel_rfl) (by kernel_rfl) (fun _ _ _ h => h) (Or.inl ⟨by rfl, ?_⟩) (by assumption) ?_
    · intro wq hS
      go_simp
    try simp only [Act.put, List.setIfInBounds_toArray, List.set_cons_zero, List.set_cons_succ]
    refine takeD 11 27 (.int .i64 (Y : Int)) (by exact rfl) rfl (by kernel_rfl) (by kernel_rfl) (by kernel_rfl) (fun _ _ _ h => h) (Or.inl ⟨by rfl, ?_⟩) (by assumption) ?_
    · intro wq hS
      have q3 := HY.out
      go_simp
      rw [IntKind.wrap_i64]; omega
    try simp only [Act.put, List.setIfInBounds_toArray, List.set_cons_zero, List.set_cons_succ]
    refine takeD 12 28 (.pointer (some ⟨q, Y, none⟩)) (by exact rfl) rfl (by kernel_rfl) (by kernel_rfl) (by kernel_rfl) (fun _ _ _ h => h) (Or.inl ⟨by rfl, ?_⟩) (by assumption) ?_
    · intro wq hS
      go_simp
    try simp only [Act.put, List.setIfInBounds_toArray, List.set_cons_zero, List.set_cons_succ]
    refine takeD 14 30 (.slice (some ⟨q, 0, none⟩) n n) (by exact rfl) rfl (by kernel_rfl) (by kernel_rfl) (by kernel_rfl) (fun _ _ _ h => h) (Or.inl ⟨by rfl, ?_⟩) (by assumption) ?_
    · intro wq hS
      go_simp
    try simp only [Act.put, List.setIfInBounds_toArray, List.set_cons_zero, List.set_cons_succ]
    refine takeD 15 31 (.int .i64 (a : Int)) (by exact rfl) rfl (by kernel_rfl) (by kernel_rfl) (by kernel_rfl) (fun _ _ _ h => h) (Or.inl ⟨by rfl, ?_⟩) (by assumption) ?_
    · intro wq hS
      go_simp
    try simp only [Act.put, List.setIfInBounds_toArray, List.set_cons_zero, List.set_cons_succ]
    refine takeD 16 32 (.int .i64 (j : Int)) (by exact rfl) rfl (by kernel_rfl) (by kernel_rfl) (by kernel_rfl) (fun _ _ _ h => h) (Or.inl ⟨by rfl, ?_⟩) (by assumption) ?_
    · intro wq hS
      go_simp
    try simp only [Act.put, List.setIfInBounds_toArray, List.set_cons_zero, List.set_cons_succ]
    refine takeD 17 33 (.int .i64 (X : Int)) (by exact rfl) rfl (by kernel_rfl) (by kernel_rfl) (by kernel_rfl) (fun _ _ _ h => h) (Or.inl ⟨by rfl, ?_⟩) (by assumption) ?_
    · intro wq hS
      have q3 := HX.out
      go_simp
      rw [IntKind.wrap_i64]; omega
    try simp only [Act.put, List.setIfInBounds_toArray, List.set_cons_zero, List.set_cons_succ]
    refine takeD 18 34 (.pointer (some ⟨q, X, none⟩)) (by exact rfl) rfl (by kernel_rfl) (by kernel_rfl) (by kernel_rfl) (fun _ _ _ h => h) (Or.inl ⟨by rfl, ?_⟩) (by assumption) ?_
    · intro wq hS
      go_simp
    try simp only [Act.put, List.setIfInBounds_toArray, List.set_cons_zero, List.set_cons_succ]
    have V7 : VA wr.drew q (row (sr f a b j) n) 3 := HV.out.drew
    have U7 : Qx q w wr.drew := HU.out.trans (Qx.of_bel (Below.refl _ _).drew)
    generalize wr.drew = w7 at *
    clear hHeld HV HU
    have cX := V7.cell X (row_get (sr f a b j) HXN.out)
    have cY := V7.cell Y (row_get (sr f a b j) HYN.out)
    have fX := V7.free X
    have fY := (V7.set X (.int .i64 ((sr f a b j) Y : Int))).free Y
    have cY2 := (V7.set X (.int .i64 ((sr f a b j) Y : Int))).cell Y (v := .int .i64 ((sr f a b j) Y : Int)) (by rw [List.getElem?_set, if_neg HXY.out]; exact row_get (sr f a b j) HYN.out)
    have HV7 := (show Hid _ from V7)
    have HU7 := (show Hid _ from U7)
    clear V7 U7
    refine wpAnyH_ready (rs := [13, 19]) (by kernel_rfl) (by simp) ?_
    refine AllReadyH.cons (by exact rfl) (fun K hK => ?_) (AllReadyH.cons (by exact rfl) (fun K hK => ?_) AllReadyH.nil)
    · go_simp
      refine hK.out _ _ trivial (fun hHeld => ?_)
      clear hK K hHeld
      try simp only [Act.put, List.setIfInBounds_toArray, List.set_cons_zero, List.set_cons_succ]
      refine wpAnyH_ready (rs := [19]) (by kernel_rfl) (by simp) ?_
      refine AllReadyH.cons (by exact rfl) (fun K hK => ?_) AllReadyH.nil
      go_simp
      refine hK.out _ _ trivial (fun hHeld => ?_)
      clear hK K hHeld
      try simp only [Act.put, List.setIfInBounds_toArray, List.set_cons_zero, List.set_cons_succ]
      have hHeld : True := trivial
      refine takeD 20 36 (.pointer (some ⟨q, X, none⟩)) (by exact rfl) rfl (by kernel_rfl) (by kernel_rfl) (by kernel_rfl) (fun _ _ _ h => h) (Or.inl ⟨by rfl, ?_⟩) (by assumption) ?_
      · intro wq hS
        go_simp
      try simp only [Act.put, List.setIfInBounds_toArray, List.set_cons_zero, List.set_cons_succ]
      clear hHeld
      refine wpAnyH_ready (rs := [21]) (by kernel_rfl) (by simp) ?_
      refine AllReadyH.cons (by exact rfl) (fun K hK => ?_) AllReadyH.nil
      go_simp
      refine hK.out _ _ trivial (fun hHeld => ?_)
      clear hK K hHeld
      try simp only [Act.put, List.setIfInBounds_toArray, List.set_cons_zero, List.set_cons_succ]
      have hHeld : True := trivial
      refine takeD 22 37 (.pointer (some ⟨q, Y, none⟩)) (by exact rfl) rfl (by kernel_rfl) (by kernel_rfl) (by kernel_rfl) (fun _ _ _ h => h) (Or.inl ⟨by rfl, ?_⟩) (by assumption) ?_
      · intro wq hS
        go_simp
      try simp only [Act.put, List.setIfInBounds_toArray, List.set_cons_zero, List.set_cons_succ]
      clear hHeld
      refine wpAnyH_ready (rs := [23]) (by kernel_rfl) (by simp) ?_
      refine AllReadyH.cons (by exact rfl) (fun K hK => ?_) AllReadyH.nil
      go_simp
      refine hK.out _ _ trivial (fun hHeld => ?_)
      clear hK K hHeld
      try simp only [Act.put, List.setIfInBounds_toArray, List.set_cons_zero, List.set_cons_succ]
      refine wpAnyH_done (by kernel_rfl) ?_ _
      refine NoPanic.normal ?_
      have V8 := (HV7.out.set X (.int .i64 ((sr f a b j) Y : Int))).set Y (.int .i64 ((sr f a b j) X : Int))
      have U8 := HU7.out.trans ((Qx.of_upd (upd_set w7 q X (.int .i64 ((sr f a b j) Y : Int)))).trans (Qx.of_upd (upd_set _ q Y (.int .i64 ((sr f a b j) X : Int)))))
      rw [row_swp (sr f a b j) HXN.out HYN.out] at V8
      have HV8 := (show Hid _ from V8)
      have HU8 := (show Hid _ from U8)
      clear V8 U8 cX cY fX fY cY2 HV7 HU7
      generalize (w7.setCell ⟨q, X, none⟩ (.int .i64 ((sr f a b j) Y : Int))).setCell ⟨q, Y, none⟩ (.int .i64 ((sr f a b j) X : Int)) = w8 at *
      go_wp2_with fail
      refine ⟨⟨j + 1, by omega, by go_num, ?_, HU8.out⟩, by simp [intOf]; omega⟩
      rw [← sr_next f h1 hj', HXE.out, HYE.out]
      exact HV8.out
    · go_simp
      refine hK.out _ _ trivial (fun hHeld => ?_)
      clear hK K hHeld
      try simp only [Act.put, List.setIfInBounds_toArray, List.set_cons_zero, List.set_cons_succ]
      refine wpAnyH_ready (rs := [13]) (by kernel_rfl) (by simp) ?_
      refine AllReadyH.cons (by exact rfl) (fun K hK => ?_) AllReadyH.nil
      go_simp
      refine hK.out _ _ trivial (fun hHeld => ?_)
      clear hK K hHeld
      try simp only [Act.put, List.setIfInBounds_toArray, List.set_cons_zero, List.set_cons_succ]
      have hHeld : True := trivial
      refine takeD 20 36 (.pointer (some ⟨q, X, none⟩)) (by exact rfl) rfl (by kernel_rfl) (by kernel_rfl) (by kernel_rfl) (fun _ _ _ h => h) (Or.inl ⟨by rfl, ?_⟩) (by assumption) ?_
      · intro wq hS
        go_simp
      try simp only [Act.put, List.setIfInBounds_toArray, List.set_cons_zero, List.set_cons_succ]
      clear hHeld
      refine wpAnyH_ready (rs := [21]) (by kernel_rfl) (by simp) ?_
      refine AllReadyH.cons (by exact rfl) (fun K hK => ?_) AllReadyH.nil
      go_simp
      refine hK.out _ _ trivial (fun hHeld => ?_)
      clear hK K hHeld
      try simp only [Act.put, List.setIfInBounds_toArray, List.set_cons_zero, List.set_cons_succ]
      have hHeld : True := trivial
      refine takeD 22 37 (.pointer (some ⟨q, Y, none⟩)) (by exact rfl) rfl (by kernel_rfl) (by kernel_rfl) (by kernel_rfl) (fun _ _ _ h => h) (Or.inl ⟨by rfl, ?_⟩) (by assumption) ?_
      · intro wq hS
        go_simp
      try simp only [Act.put, List.setIfInBounds_toArray, List.set_cons_zero, List.set_cons_succ]
      clear hHeld
      refine wpAnyH_ready (rs := [23]) (by kernel_rfl) (by simp) ?_
      refine AllReadyH.cons (by exact rfl) (fun K hK => ?_) AllReadyH.nil
      go_simp
      refine hK.out _ _ trivial (fun hHeld => ?_)
      clear hK K hHeld
      try simp only [Act.put, List.setIfInBounds_toArray, List.set_cons_zero, List.set_cons_succ]
      refine wpAnyH_done (by kernel_rfl) ?_ _
      refine NoPanic.normal ?_
      have V8 := (HV7.out.set X (.int .i64 ((sr f a b j) Y : Int))).set Y (.int .i64 ((sr f a b j) X : Int))
      have U8 := HU7.out.trans ((Qx.of_upd (upd_set w7 q X (.int .i64 ((sr f a b j) Y : Int)))).trans (Qx.of_upd (upd_set _ q Y (.int .i64 ((sr f a b j) X : Int)))))
      rw [row_swp (sr f a b j) HXN.out HYN.out] at V8
      have HV8 := (show Hid _ from V8)
      have HU8 := (show Hid _ from U8)
      clear V8 U8 cX cY fX fY cY2 HV7 HU7
      generalize (w7.setCell ⟨q, X, none⟩ (.int .i64 ((sr f a b j) Y : Int))).setCell ⟨q, Y, none⟩ (.int .i64 ((sr f a b j) X : Int)) = w8 at *
      go_wp2_with fail
      refine ⟨⟨j + 1, by omega, by go_num, ?_, HU8.out⟩, by simp [intOf]; omega⟩
      rw [← sr_next f h1 hj', HXE.out, HYE.out]
      exact HV8.out
end Go.Proofs.YtbgglghapjfdeaaDoor
