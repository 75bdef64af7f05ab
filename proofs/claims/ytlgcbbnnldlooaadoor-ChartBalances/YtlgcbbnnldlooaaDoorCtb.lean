/- chart: beyond, isAmount; lines of an entry; check. -/
import Derived.Test.YtlgcbbnnldlooaaDoorCta
import Derived.Test.YtlgcbbnnldlooaaDoorRwa
namespace Go.Proofs.YtlgcbbnnldlooaaDoor
open Go.RowKit
set_option linter.unusedVariables false
attribute [local go_sem] ext_cell ext_frozen ext_drew ext_of_drew ext_of_drewN ext_setCell ext_lt ext_lt1 ext_lt2 ext_lt3 lt_n2 lt_n3 lt_n4 lt_n5 lt_n6

/-- is c, of scale s, beyond b in size? -/
def far (c : Int) (s : Nat) (b : Int) : Bool := decide (b * (10 : Int) ^ s < c ∨ c < -(b * (10 : Int) ^ s))
theorem tv_0 (c : Int) (s : Nat) (b : Int) : tv c s b 0 = c + b * (10 : Int) ^ s := by unfold tv; simp
theorem sgn_pos {z : Int} : 0 < sgn z ↔ 0 < z := by unfold sgn; split; omega; split <;> omega
theorem sgn_lt {z : Int} : sgn z < 0 ↔ z < 0 := by unfold sgn; split; omega; split <;> omega
set_option maxHeartbeats 1000000 in
set_option maxRecDepth 100000 in
theorem beyond_ok (c b : Int) (s : Nat) (w : World) (ic : InR c) (ib : InR b) (hs : (s : Int) ≤ 18) :
    Calls Tryd.prog 27 #[dv c s, dv b 0] w fun e w' => e = .returned (.bool (far c s b)) ∧ Below w.heap.size w w' := by
  have N : Hid (∀ w : World, Calls Tryd.prog 21 #[.agg #[.int .i64 (dhi b), .int .u64 (dlo b), .int .i64 0]] w fun e w' => e = .returned (.tuple #[.agg #[.int .i64 (dhi (-b)), .int .u64 (dlo (-b)), .int .i64 0], .int .i64 0]) ∧ Below w.heap.size w w') := fun w => neg_ok b _ _ 0 w (IsD.self _) ib (by decide)
  obtain ⟨x, hx⟩ : ∃ x, x = sgn (tv c s (-b) 0) := ⟨_, rfl⟩
  obtain ⟨y, hy⟩ : ∃ y, y = sgn (tv c s (-(-b)) 0) := ⟨_, rfl⟩
  have C1 : Hid (∀ w : World, Calls Tryd.prog 48 #[.agg #[.int .i64 (dhi c), .int .u64 (dlo c), .int .i64 s], .agg #[.int .i64 (dhi b), .int .u64 (dlo b), .int .i64 0]] w fun e w' => e = .returned (.tuple #[.int .i64 x, .int .i64 0]) ∧ Below w.heap.size w w') := fun w => by rw [hx]; exact cmp_yes c b s 0 w ic ib hs (by decide)
  have C2 : Hid (∀ w : World, Calls Tryd.prog 48 #[.agg #[.int .i64 (dhi c), .int .u64 (dlo c), .int .i64 s], .agg #[.int .i64 (dhi (-b)), .int .u64 (dlo (-b)), .int .i64 0]] w fun e w' => e = .returned (.tuple #[.int .i64 y, .int .i64 0]) ∧ Below w.heap.size w w') := fun w => by rw [hy]; exact cmp_yes c (-b) s 0 w ic ib.neg hs (by decide)
  have ex : (0 < x) ↔ b * (10 : Int) ^ s < c := by rw [hx, sgn_pos, tv_0, Int.neg_mul]; omega
  have ey : (y < 0) ↔ c < -(b * (10 : Int) ^ s) := by rw [hy, sgn_lt, tv_0, Int.neg_neg]; omega
  have ef : far c s b = (decide (0 < x) || decide (y < 0)) := by unfold far; rw [← Bool.decide_or]; exact decide_eq_decide.2 (by rw [ex, ey])
  unfold dv
  rw [ef]
  clear ex ey ef hx hy ic ib hs
  by_cases h1 : 0 < x
  · rw [decide_eq_true h1]
    go_enter Tryd.func27, Tryd.ntmps27
    go_wp2_with fail
    refine (N.out _).mono ?_
    rintro e w1 ⟨rfl, hb1⟩; obtain ⟨x1, rfl⟩ := ext_of_below hb1; clear hb1
    go_wp2_with fail
    refine (C1.out _).mono ?_
    rintro e w1 ⟨rfl, hb1⟩; obtain ⟨x2, rfl⟩ := ext_of_below hb1; clear hb1
    go_wp2_with fail
    refine (C2.out _).mono ?_
    rintro e w1 ⟨rfl, hb1⟩; obtain ⟨x3, rfl⟩ := ext_of_below hb1; clear hb1
    go_wp2_with fail
    go_ret
    refine ⟨rfl, ?_⟩
    repeat (first | exact Below.refl _ _ | refine Below.drew ?_ | refine below_drewN ?_ _ | refine bel_alloc ?_ _ | refine bel_ext ?_ _ | (refine Below.setCell ?_ ?_ _; rotate_left; (simp <;> omega)))
  · rw [decide_eq_false h1]
    by_cases h2 : y < 0
    · rw [decide_eq_true h2]
      go_enter Tryd.func27, Tryd.ntmps27
      go_wp2_with fail
      refine (N.out _).mono ?_
      rintro e w1 ⟨rfl, hb1⟩; obtain ⟨x1, rfl⟩ := ext_of_below hb1; clear hb1
      go_wp2_with fail
      refine (C1.out _).mono ?_
      rintro e w1 ⟨rfl, hb1⟩; obtain ⟨x2, rfl⟩ := ext_of_below hb1; clear hb1
      go_wp2_with fail
      refine (C2.out _).mono ?_
      rintro e w1 ⟨rfl, hb1⟩; obtain ⟨x3, rfl⟩ := ext_of_below hb1; clear hb1
      go_wp2_with fail
      go_ret
      refine ⟨rfl, ?_⟩
      repeat (first | exact Below.refl _ _ | refine Below.drew ?_ | refine below_drewN ?_ _ | refine bel_alloc ?_ _ | refine bel_ext ?_ _ | (refine Below.setCell ?_ ?_ _; rotate_left; (simp <;> omega)))
    · rw [decide_eq_false h2]
      go_enter Tryd.func27, Tryd.ntmps27
      go_wp2_with fail
      refine (N.out _).mono ?_
      rintro e w1 ⟨rfl, hb1⟩; obtain ⟨x1, rfl⟩ := ext_of_below hb1; clear hb1
      go_wp2_with fail
      refine (C1.out _).mono ?_
      rintro e w1 ⟨rfl, hb1⟩; obtain ⟨x2, rfl⟩ := ext_of_below hb1; clear hb1
      go_wp2_with fail
      refine (C2.out _).mono ?_
      rintro e w1 ⟨rfl, hb1⟩; obtain ⟨x3, rfl⟩ := ext_of_below hb1; clear hb1
      go_wp2_with fail
      go_ret
      refine ⟨by simp [h1, h2], ?_⟩
      repeat (first | exact Below.refl _ _ | refine Below.drew ?_ | refine below_drewN ?_ _ | refine bel_alloc ?_ _ | refine bel_ext ?_ _ | (refine Below.setCell ?_ ?_ _; rotate_left; (simp <;> omega)))
/-- the two limits, as the package's text lays them -/
structure Lim (w : World) : Prop where
  bal : At3 w 0 (.int .i64 54210) (.int .u64 2003764205206896640) (.int .i64 0)
  amt : At3 w 1 (.int .i64 5) (.int .u64 7766279631452241920) (.int .i64 0)
theorem Lim.step {w w' : World} (h : Lim w) (k : Below w.heap.size w w') : Lim w' := ⟨h.bal.step k, h.amt.step k⟩
theorem Lim.alloc {w : World} (h : Lim w) (o : Obj) : Lim (w.alloc o) := h.step ((Below.refl _ _).alloc (Nat.le_refl _) o)
theorem Lim.blk {w w' : World} (h : Lim w) (s : w.heap.size ≤ w'.heap.size) (k : ∀ b, b ≤ 1 → w'.heap[b]? = w.heap[b]?) : Lim w' := by
  have t : ∀ b i, b ≤ 1 → w'.cell? ⟨b, i, none⟩ = w.cell? ⟨b, i, none⟩ := fun b i hb => World.cell?_of_block (w := w) (w' := w') (a := ⟨b, i, none⟩) (k b hb)
  exact ⟨⟨(t _ _ (by omega)).trans h.bal.c0, (t _ _ (by omega)).trans h.bal.c1, (t _ _ (by omega)).trans h.bal.c2, Nat.lt_of_lt_of_le h.bal.lt s⟩, ⟨(t _ _ (by omega)).trans h.amt.c0, (t _ _ (by omega)).trans h.amt.c1, (t _ _ (by omega)).trans h.amt.c2, Nat.lt_of_lt_of_le h.amt.lt s⟩⟩
def M20 : Int := 100000000000000000000
def M24 : Int := 1000000000000000000000000
theorem dv_M20 : dv M20 0 = .agg #[.int .i64 5, .int .u64 7766279631452241920, .int .i64 0] := by
  unfold dv
  rw [show dhi M20 = 5 by decide, show dlo M20 = 7766279631452241920 by decide]
theorem dv_M24 : dv M24 0 = .agg #[.int .i64 54210, .int .u64 2003764205206896640, .int .i64 0] := by
  unfold dv
  rw [show dhi M24 = 54210 by decide, show dlo M24 = 2003764205206896640 by decide]
theorem inr_M20 : InR M20 := ⟨by decide, by decide⟩
theorem inr_M24 : InR M24 := ⟨by decide, by decide⟩
/-- a line -/
structure Ln where
  code : Int
  cur : Int
  h : Int
  l : Int
  s : Int
structure Ln.wf (x : Ln) : Prop where
  code : -9223372036854775808 ≤ x.code ∧ x.code ≤ 9223372036854775807
  cur : -9223372036854775808 ≤ x.cur ∧ x.cur ≤ 9223372036854775807
  h : (Lit.int .i64 x.h).wf = true
  l : (Lit.int .u64 x.l).wf = true
  s : -9223372036854775808 ≤ x.s ∧ x.s ≤ 9223372036854775807
def Ln.enc (x : Ln) : List Value := [.int .i64 x.code, .int .i64 x.cur, .int .i64 x.h, .int .u64 x.l, .int .i64 x.s]
/-- the coefficient -/
def Ln.cf (x : Ln) : Int := x.h * 18446744073709551616 + x.l
/-- is there such an account? -/
def Ln.pl (x : Ln) : Bool := wi x.code 1 8 && wi x.cur 0 3
/-- is it an amount? -/
def Ln.ok (x : Ln) : Bool := decide (0 ≤ x.s ∧ x.s ≤ 12) && !(far x.cf x.s.toNat M20)
theorem cf_of {h l s : Int} {c : Int} (h1 : h = dhi c) (h2 : l = dlo c) : h * 18446744073709551616 + l = c := by
  subst h1 h2
  unfold dhi dlo
  omega
theorem infoLn : (Tryd.prog.info? 39).map (fun i => (i.zero, i.size, i.bytes)) = some (some (.agg #[.int .i64 0, .int .i64 0, .int .i64 0, .int .u64 0, .int .i64 0]), 5, 40) := by kernel_rfl
def LN : Kd Ln where
  T := 39
  S := 34
  k := 5
  bt := 40
  enc := Ln.enc
  info := by
    obtain ⟨i, hi, hz⟩ := Option.map_eq_some_iff.1 infoLn
    simp only [Prod.mk.injEq] at hz
    exact ⟨i, _, hi, hz.1, hz.2.1, hz.2.2, rfl⟩
  und := Tryd.underlying34
  pos := by decide
  len := fun x => rfl
  one := by
    intro x v hv
    simp [Ln.enc] at hv
    rcases hv with rfl | rfl | rfl | rfl | rfl <;> rfl
end Go.Proofs.YtlgcbbnnldlooaaDoor
