/- loan: awake; the walks of LoanPays, LoanNothingLost. -/
import Derived.Test.YtapjegkjhdnlcaaLe
namespace Go.Proofs.Ytapjegkjhdnlcaa
open Go.RowKit
set_option linter.unusedVariables false

/-- all of a struct is loaded, under a guard that holds -/
theorem ldAg {w : World} {ops : Array Oper} {rest : List Oper} {o : Oper} {a : Act} {Q : Exit → Act → World → Prop} (hgd : Region.wanted o (yielded ops a.tmps) = true) (t : TypeId) (x : Operand) (ho : o.op = .load t x)
    (p : Nat) (hx : a.eval x = .pointer (some ⟨p, 0, none⟩)) (cs : List Value) (T : TypeId) (h : VA w p cs T) (d : TypeDesc) (hu : Try.prog.underlying t = some d) (hd : d.isRow = true) (hi : (Try.prog.info? t).map (·.size) = some cs.length)
    (k : wpList Try.prog ops Q rest (a.put o.dst (.agg cs.toArray)) w) : wpList Try.prog ops Q (o :: rest) a w := by
  refine wpList_step fun K hK => ?_
  rw [if_pos hgd]
  exact wp_load_mid t x ho p 0 hx cs d (fun j v hv => by rw [Nat.zero_add]; exact h.cell j hv) hu hd hi (hK _ _ k)
theorem plan100 : plan 100 3 3 = [34, 33, 33] := by decide
theorem pays50 : pc (pf 50 10) (pq 50 10 5) (pp 50 10 5 100) (pr 50 10 5 100) = pc 10 5 35 0 := rfl
set_option maxRecDepth 100000 in
theorem awake_ok (w : World) : Calls Try.prog 14 #[] w fun e w' => e = .returned (.bool true) ∧ Below w.heap.size w w' := by
  go_enter Try.func14, Try.ntmps14
  go_wp2_with fail
  refine (Schedule_ok 100 3 _ (by decide)).mono ?_
  rintro e w1 ⟨⟨v, rfl, ho⟩, b1⟩
  rw [show (((3 : Nat) : Int)) = 3 from rfl, plan100] at ho
  have O1 := (show Hid _ from ho.is)
  have B1 := (show Hid _ from b1)
  clear ho b1
  go_wp2_with fail
  refine (Pays_ok 50 10 5 100 _ (by decide) (by decide) (by decide) (by decide)).mono ?_
  rintro e w2 ⟨rfl, b2⟩
  rw [pays50]
  have O2 := (show Hid _ from O1.out.step b2)
  have B2 := (show Hid _ from (B1.out.trans (b2.mono B1.out.size)).alloc (Nat.le_trans B1.out.size b2.size) (.cells (pc 0 0 0 0).toArray 38))
  have hs2 := Nat.le_trans B1.out.size b2.size
  clear b2 O1 B1
  go_wp2_with (refine stA rfl 38 _ _ rfl w2.heap.size (by rfl) (pc 0 0 0 0) (pc 10 5 35 0) (by rfl) 38 (va_new w2 (pc 0 0 0 0) 38) infoP4 rfl (pc_one _ _ _ _) ?_; intro w3 V3 U3; have O3 := (show Hid _ from O2.out.step (U3.bel ((Below.refl w2.heap.size w2).alloc (Nat.le_refl _) _) (Nat.le_refl _))))
  have B3 := (show Hid _ from U3.bel B2.out hs2)
  have G3 := (show Hid _ from V3.alloc (.cells (ci [34, 33, 33]).toArray 2))
  clear U3 V3 B2 O2
  refine (sameInts_ok v _ [34, 33, 33] _ (O3.out.step ((Below.refl _ _).alloc (Nat.le_refl _) _)) (is_new w3 [34, 33, 33] 3 rfl (by omega) 2)).mono ?_
  rintro e w4 ⟨rfl, b4⟩
  have G4 := (show Hid _ from G3.out.step b4)
  have B4 := (show Hid _ from (B3.out.alloc B3.out.size _).trans (b4.mono (by have := B3.out.size; simp; omega)))
  clear b4 G3 B3 O3
  go_wp2_with (refine ldAg (by rfl) 38 _ rfl w2.heap.size (by rfl) [.int .i64 10, .int .i64 5, .int .i64 35, .int .i64 0] _ G4.out _ Try.underlying38 rfl infoP4 ?_)
  go_ret
  exact ⟨rfl, B4.out⟩
/-- a struct's two copies are alike -/
theorem eqP (w : World) (a b c d : Int) : (Op.equalIn 10000 38 (.agg #[.int .i64 a, .int .i64 b, .int .i64 c, .int .i64 d]) (.agg #[.int .i64 a, .int .i64 b, .int .i64 c, .int .i64 d])).run Try.prog w = .ok true w := by
  go_simp
set_option maxRecDepth 100000 in
theorem pays_walk (y f i p : Int) (w : World) : Calls Try.prog 4 #[.int .i64 y, .int .i64 f, .int .i64 i, .int .i64 p] w fun e w' => e = .returned (.bool true) ∧ Below w.heap.size w w' := by
  obtain ⟨A, B, C, D, r, hP, hD⟩ : ∃ A B C D r : Int, (∀ w, Calls Try.prog 16 #[.int .i64 y, .int .i64 f, .int .i64 i, .int .i64 p] w fun e w' => e = .returned (.tuple #[.agg (pc A B C D).toArray, .int .i64 r]) ∧ Below w.heap.size w w') ∧ (∀ w, Calls Try.prog 17 #[.int .i64 y, .int .i64 f, .int .i64 i, .int .i64 p] w fun e w' => e = .returned (.tuple #[.agg (pc A B C D).toArray, .int .i64 r]) ∧ Below w.heap.size w w') := by
    by_cases h : AllMi y f i p
    · refine ⟨_, _, _, _, _, fun w => Pays_ok y f i p w h.1 h.2.1 h.2.2.1 h.2.2.2, fun w => (DocPays_any y f i p w).mono ?_⟩
      rintro e w' ⟨h1 | h1, h2⟩
      · exact ⟨h1.2, h2⟩
      · exact absurd h h1.1
    · refine ⟨_, _, _, _, _, fun w => Pays_no y f i p w h, fun w => (DocPays_any y f i p w).mono ?_⟩
      rintro e w' ⟨h1 | h1, h2⟩
      · exact absurd h1.1 h
      · exact ⟨h1.2, h2⟩
  have HP := (show Hid _ from hP)
  have HD := (show Hid _ from hD)
  clear hP hD
  have heq := fun w => eqP w A B C D
  go_enter Try.func4, Try.ntmps4
  go_wp2_with fail
  refine (HP.out _).mono ?_
  rintro e w1 ⟨rfl, b1⟩
  have V1 := (show Hid _ from va_new w1 (pc 0 0 0 0) 38)
  have B1 := (show Hid _ from b1.alloc b1.size (.cells (pc 0 0 0 0).toArray 38))
  have s1 := b1.size
  clear b1
  go_wp2_with (refine stA rfl 38 _ _ rfl w1.heap.size (by rfl) (pc 0 0 0 0) (pc A B C D) (by rfl) 38 V1.out infoP4 rfl (pc_one _ _ _ _) ?_; intro w2 va up; have V2 := (show Hid _ from va); have B2 := (show Hid _ from up.bel B1.out s1); clear va up V1 B1)
  refine (HD.out _).mono ?_
  rintro e w3 ⟨rfl, b3⟩
  have V3 := (show Hid _ from (V2.out.step b3).alloc (.cells (pc 0 0 0 0).toArray 41))
  have B3 := (show Hid _ from (B2.out.trans (b3.mono B2.out.size)).alloc (Nat.le_trans B2.out.size b3.size) (.cells (pc 0 0 0 0).toArray 41))
  have s3 := Nat.le_trans B2.out.size b3.size
  have n3 := Nat.lt_of_lt_of_le V2.out.lt b3.size
  have R3 := (show Hid _ from va_new w3 (pc 0 0 0 0) 41)
  clear V2 B2 b3
  go_wp2_with (refine stA rfl 41 _ _ rfl w3.heap.size (by rfl) (pc 0 0 0 0) (pc A B C D) (by rfl) 41 R3.out infoR4 rfl (pc_one _ _ _ _) ?_; intro w4 va up; have R4 := (show Hid _ from va); have V4 := (show Hid _ from V3.out.upd up (by omega)); have B4 := (show Hid _ from up.bel B3.out s3); clear va up V3 B3 R3)
  refine (awake_ok _).mono ?_
  rintro e w5 ⟨rfl, b5⟩
  have V5 := (show Hid _ from V4.out.step b5)
  have R5 := (show Hid _ from R4.out.step b5)
  have B5 := (show Hid _ from B4.out.trans (b5.mono B4.out.size))
  clear V4 R4 B4 b5
  go_wp2_with (first | (refine ldAg (by rfl) 38 _ rfl w1.heap.size (by rfl) [.int .i64 A, .int .i64 B, .int .i64 C, .int .i64 D] _ V5.out _ Try.underlying38 rfl infoP4 ?_) | (refine ldAg (by rfl) 41 _ rfl w3.heap.size (by rfl) [.int .i64 A, .int .i64 B, .int .i64 C, .int .i64 D] _ R5.out _ Try.underlying41 rfl infoR4 ?_))
  go_ret
  exact ⟨rfl, B5.out⟩
end Go.Proofs.Ytapjegkjhdnlcaa
