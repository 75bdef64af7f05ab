/- prod: the walk of ProdNil. -/
import Derived.Test.YtgbphbeafomabaaGr
namespace Go.Proofs.Ytgbphbeafomabaa
open Go.RowKit Go.Shelf
set_option linter.unusedVariables false

/-- all of an array or a struct is loaded, under a guard that holds -/
theorem ldAw {w : World} {ops : Array Oper} {rest : List Oper} {o : Oper} {a : Act} {Q : Exit → Act → World → Prop} (hgd : Region.wanted o (yielded ops a.tmps) = true) (t : TypeId) (x : Operand) (ho : o.op = .load t x)
    (p : Nat) (hx : a.eval x = .pointer (some ⟨p, 0, none⟩)) (cs : List Value) (T : TypeId) (h : VA w p cs T) (d : TypeDesc) (hu : Try.prog.underlying t = some d) (hd : d.isRow = true) (hi : (Try.prog.info? t).map (·.size) = some cs.length)
    (k : wpList Try.prog ops Q rest (a.put o.dst (.agg cs.toArray)) w) : wpList Try.prog ops Q (o :: rest) a w := by
  refine wpList_step fun K hK => ?_
  rw [if_pos hgd]
  exact wp_load_mid t x ho p 0 hx cs d (fun j v hv => by rw [Nat.zero_add]; exact h.cell j hv) hu hd hi (hK _ _ k)
theorem tr_nil (w : World) : Tr w (.slice none 0 0) [] := ⟨fun t h => (by cases h), none, 0, rfl, by simp, by omega, fun h => by simp at h⟩
set_option maxRecDepth 100000 in
set_option maxHeartbeats 4000000 in
theorem nil_walk (x : PV) (tv : Value) (id day : Int) (w : World) (h : Tr w tv x.ts) (hno : ∀ n c, tv = .slice none n c → c = 0) (hl : x.ts.length + 2 ≤ 8796093022208) :
    Calls Try.prog 6 #[.agg (x.cells tv).toArray, .int .i64 id, .int .i64 day] w fun e w' => e = .returned (.bool true) ∧ Below w.heap.size w w' := by
  have HV := (show Hid _ from va_new w (x.cells tv) 24)
  have HD := (show Hid _ from (Below.refl w.heap.size w).alloc (Nat.le_refl _) (.cells (x.cells tv).toArray 24))
  have HT0 := (show Hid _ from h.step HD.out)
  have HN := (show Hid _ from hno)
  have HLL := (show Hid _ from hl)
  clear h hno hl
  go_enter Try.func6, Try.ntmps6
  go_wp2_with (refine ldA rfl 24 _ rfl w.heap.size (by rfl) _ _ HV.out _ Try.underlying24 rfl infoR ?_)
  refine (of_ok x _ _ HT0.out HN.out HLL.out).mono ?_
  rintro e w1 ⟨⟨v, rfl, of1⟩, b1⟩
  have V1 := (show Hid _ from HV.out.step b1)
  have D1 := (show Hid _ from HD.out.trans (b1.mono HD.out.size))
  have T1 := (show Hid _ from HT0.out.step b1)
  have O1 := (show Hid _ from of1)
  clear b1 of1 HV HD HT0
  go_wp2_with fail
  refine (add_nil x v _ O1.out.tr).mono ?_
  rintro e w2 ⟨rfl, b2⟩
  have V2 := (show Hid _ from V1.out.step b2)
  have D2 := (show Hid _ from D1.out.trans (b2.mono D1.out.size))
  have T2 := (show Hid _ from T1.out.step b2)
  clear b2 V1 D1 T1 O1
  obtain ⟨r, hr⟩ : ∃ r, r = (if chk x ≠ 0 then chk x else 7) := ⟨_, rfl⟩
  have HR := (show Hid _ from hr)
  rw [← hr]
  clear hr
  go_wp2_with fail
  refine (at_nil id day _).mono ?_
  rintro e w3 ⟨ha, b3⟩
  have V3 := (show Hid _ from (V2.out.step b3).alloc (.cells #[.int .i64 0, .int .i64 0, .int .i64 0, .int .i64 0, .int .i64 0, .int .i64 0, .int .i64 0, .int .i64 0, .slice none 0 0] 25))
  have D3 := (show Hid _ from (D2.out.trans (b3.mono D2.out.size)))
  have T3 := (show Hid _ from T2.out.step b3)
  have l3 := (V2.out.step b3).lt
  obtain ⟨k, hk, rfl⟩ : ∃ k, k = (if wi day 1 3652059 = true then (7 : Int) else 1) ∧ e = .returned (.tuple #[.agg #[.int .i64 0, .int .i64 0, .int .i64 0, .int .i64 0, .int .i64 0, .int .i64 0, .int .i64 0, .int .i64 0, .slice none 0 0], .int .i64 k]) := by
    rcases ha with ⟨h, e⟩ | ⟨h, _, e⟩ | ⟨_, x, v, hx, _⟩
    · exact ⟨1, by rw [h]; rfl, e⟩
    · exact ⟨7, by rw [h]; rfl, e⟩
    · cases hx
  have HK := (show Hid _ from hk)
  clear b3 V2 D2 T2 hk ha
  go_upto_region 4 with (refine stA rfl 25 _ _ rfl w3.heap.size (by rfl) _ [.int .i64 0, .int .i64 0, .int .i64 0, .int .i64 0, .int .i64 0, .int .i64 0, .int .i64 0, .int .i64 0, .slice none 0 0] (by rfl) 25 (va_new w3 [.int .i64 0, .int .i64 0, .int .i64 0, .int .i64 0, .int .i64 0, .int .i64 0, .int .i64 0, .int .i64 0, .slice none 0 0] 25) infoP rfl zz_one ?_; intro w4 VQ UQ)
  have BQ : Below w3.heap.size w3 w4 := UQ.bel ((Below.refl _ _).alloc (Nat.le_refl _) _) (Nat.le_refl _)
  have Q4 := (show Hid _ from VQ)
  have V4 := (show Hid _ from V3.out.upd UQ (by omega))
  have T4 := (show Hid _ from T3.out.step BQ)
  have D4 := (show Hid _ from D3.out.trans (BQ.mono D3.out.size))
  clear VQ UQ BQ V3 T3 D3
  generalize w3.heap.size = bq at *
  go_wp2_with fail
  refine (rdocat_nil id day _).mono ?_
  rintro e w5 ⟨rfl, b5⟩
  rw [← HK.out]
  have Q5 := (show Hid _ from Q4.out.step b5)
  have V5 := (show Hid _ from (V4.out.step b5).alloc (.cells #[.int .i64 0, .int .i64 0, .int .i64 0, .int .i64 0, .int .i64 0, .int .i64 0, .int .i64 0, .int .i64 0, .slice none 0 0] 24))
  have D5 := (show Hid _ from D4.out.trans (b5.mono D4.out.size))
  have T5 := (show Hid _ from T4.out.step b5)
  have l5 := (V4.out.step b5).lt
  have m5 := Q5.out.lt
  clear b5 Q4 V4 D4 T4
  go_upto_region 5 with (refine stA rfl 24 _ _ rfl w5.heap.size (by rfl) _ [.int .i64 0, .int .i64 0, .int .i64 0, .int .i64 0, .int .i64 0, .int .i64 0, .int .i64 0, .int .i64 0, .slice none 0 0] (by rfl) 24 (va_new w5 [.int .i64 0, .int .i64 0, .int .i64 0, .int .i64 0, .int .i64 0, .int .i64 0, .int .i64 0, .int .i64 0, .slice none 0 0] 24) infoR rfl zz_one ?_; intro w6 VR UR)
  have BR : Below w5.heap.size w5 w6 := UR.bel ((Below.refl _ _).alloc (Nat.le_refl _) _) (Nat.le_refl _)
  have Q6 := (show Hid _ from Q5.out.step BR)
  have V6 := (show Hid _ from V5.out.upd UR (by omega))
  have T6 := (show Hid _ from T5.out.step BR)
  have D6 := (show Hid _ from D5.out.trans (BR.mono D5.out.size))
  clear VR UR BR Q5 V5 T5 D5
  go_wp2_with (refine ldA rfl 24 _ rfl w.heap.size (by rfl) _ _ V6.out _ Try.underlying24 rfl infoR ?_)
  refine (rcheck_ok x _ _ T6.out).mono ?_
  rintro e w7 ⟨rfl, b7⟩
  have Q7 := (show Hid _ from Q6.out.step b7)
  have D7 := (show Hid _ from D6.out.trans (b7.mono D6.out.size))
  clear b7 Q6 V6 T6 D6
  have rest : ∀ c : Int, Hid (chk x = c) → (c ≠ 0 ∧ r = c ∨ c = 0 ∧ r = 7) → True := fun _ _ _ => trivial
  clear rest
  have hrr : (chk x ≠ 0 ∧ r = chk x) ∨ (chk x = 0 ∧ r = 7) := by
    have := HR.out
    by_cases hc : chk x = 0
    · rw [if_neg (fun h => h hc)] at this; exact Or.inr ⟨hc, this⟩
    · rw [if_pos hc] at this; exact Or.inl ⟨hc, this⟩
  rcases hrr with ⟨hc, hr⟩ | ⟨hc, hr⟩
  · subst hr
    have e1 : (chk x != 0) = true := by simpa using hc
    have e2 : (chk x == 0) = false := by simpa using hc
    generalize chk x = c at *
    go_wp2_with (first | (go_at_call 9; refine (awake_ok _).mono ?_; rintro e w8 ⟨rfl, b8⟩; have Q8 := (show Hid _ from Q7.out.step b8); have D8 := (show Hid _ from D7.out.trans (b8.mono D7.out.size)); clear b8) | (refine ldAw (by rfl) 25 _ rfl bq (by rfl) [.int .i64 0, .int .i64 0, .int .i64 0, .int .i64 0, .int .i64 0, .int .i64 0, .int .i64 0, .int .i64 0, .slice none 0 0] _ Q8.out _ Try.underlying25 rfl infoP ?_))
    refine (back_ok zeroV (.slice none 0 0) _ ⟨_, _, _, rfl⟩).mono ?_
    rintro e w9 ⟨rfl, b9⟩
    have D9 := (show Hid _ from D8.out.trans (b9.mono D8.out.size))
    clear b9
    go_wp2_with fail
    refine (rsame_true zeroV (.slice none 0 0) (.slice none 0 0) _ (tr_nil _) (tr_nil _)).mono ?_
    rintro e w10 ⟨rfl, b10⟩
    have D10 := (show Hid _ from D9.out.trans (b10.mono D9.out.size))
    clear b10
    go_wp2_with fail
    refine (list_nil _).mono ?_
    rintro e w11 ⟨rfl, rfl⟩
    go_wp2_with fail
    go_ret
    exact ⟨rfl, D10.out⟩
  · subst hr
    rw [hc]
    go_wp2_with (first | (go_at_call 9; refine (awake_ok _).mono ?_; rintro e w8 ⟨rfl, b8⟩; have Q8 := (show Hid _ from Q7.out.step b8); have D8 := (show Hid _ from D7.out.trans (b8.mono D7.out.size)); clear b8) | (refine ldAw (by rfl) 25 _ rfl bq (by rfl) [.int .i64 0, .int .i64 0, .int .i64 0, .int .i64 0, .int .i64 0, .int .i64 0, .int .i64 0, .int .i64 0, .slice none 0 0] _ Q8.out _ Try.underlying25 rfl infoP ?_))
    refine (back_ok zeroV (.slice none 0 0) _ ⟨_, _, _, rfl⟩).mono ?_
    rintro e w9 ⟨rfl, b9⟩
    have D9 := (show Hid _ from D8.out.trans (b9.mono D8.out.size))
    clear b9
    go_wp2_with fail
    refine (rsame_true zeroV (.slice none 0 0) (.slice none 0 0) _ (tr_nil _) (tr_nil _)).mono ?_
    rintro e w10 ⟨rfl, b10⟩
    have D10 := (show Hid _ from D9.out.trans (b10.mono D9.out.size))
    clear b10
    go_wp2_with fail
    refine (list_nil _).mono ?_
    rintro e w11 ⟨rfl, rfl⟩
    go_wp2_with fail
    go_ret
    exact ⟨rfl, D10.out⟩
end Go.Proofs.Ytgbphbeafomabaa
