/- money: the table of currencies; the contracts of isCurrency, inRange, Digits, Check, amount. -/
import Derived.Test.YtbgglghapjfdeaaDoorIa
import Derived.Test.YtbgglghapjfdeaaDoorGy
namespace Go.Proofs.YtbgglghapjfdeaaDoor
open Go.RowKit
set_option linter.unusedVariables false

def wi (n l g : Int) : Bool := decide (l ≤ n ∧ n ≤ g)
theorem wi_yes {n l g : Int} (h1 : l ≤ n) (h2 : n ≤ g) : wi n l g = true := decide_eq_true ⟨h1, h2⟩
theorem wi_no {n l g : Int} (h : ¬ (l ≤ n ∧ n ≤ g)) : wi n l g = false := decide_eq_false h
/-- the digits of the currencies -/
def cdg (i : Nat) : Nat := [2, 2, 0, 3].getD i 0
theorem cdg_le (i : Nat) : cdg i ≤ 3 := by
  unfold cdg
  match i with
  | 0 => decide
  | 1 => decide
  | 2 => decide
  | 3 => decide
  | n + 4 => simp
/-- the table -/
structure Cu (w : World) : Prop where
  row : ∀ i, i < 4 → w.cell? ⟨0, i * 2 + 1, none⟩ = some (.int .i64 ((cdg i : Nat) : Int))
theorem Cu.lt {w : World} (h : Cu w) : 0 < w.heap.size := World.block_lt_of_cell? w _ (h.row 0 (by omega))
theorem Cu.step {w w' : World} (h : Cu w) (k : Below w.heap.size w w') : Cu w' := ⟨fun i hi => (k.cell (p := ⟨0, i * 2 + 1, none⟩) h.lt).trans (h.row i hi)⟩
theorem Cu.alloc {w : World} (h : Cu w) (o : Obj) : Cu (w.alloc o) := h.step ((Below.refl _ _).alloc (Nat.le_refl _) o)
theorem Cu.drew {w : World} (h : Cu w) : Cu w.drew := h.step ((Below.refl _ _).drew)
theorem Cu.upd {w w' : World} {p : Nat} (h : Cu w) (k : Upd p w w') (hp : 0 ≠ p) : Cu w' := ⟨fun i hi => (World.cell?_of_block (w := w) (w' := w') (a := ⟨0, i * 2 + 1, none⟩) (k.block 0 hp)).trans (h.row i hi)⟩
theorem mcur_ok (n : Int) (w : World) : Calls Tryd.prog 40 #[.int .i64 n] w fun e w' => e = .returned (.bool (wi n (0) 3)) ∧ w' = w := by
  unfold wi
  by_cases h1 : 0 ≤ n
  · by_cases h2 : n < 4
    · rw [show decide (0 ≤ n ∧ n ≤ 3) = true by simp; omega]
      go_enter Tryd.func40, Tryd.ntmps40
      go_wp2_with fail
      go_ret
      exact ⟨rfl, rfl⟩
    · rw [show decide (0 ≤ n ∧ n ≤ 3) = false by simp; omega]
      go_enter Tryd.func40, Tryd.ntmps40
      go_wp2_with fail
      go_ret
      exact ⟨rfl, rfl⟩
  · rw [show decide (0 ≤ n ∧ n ≤ 3) = false by simp; omega]
    go_enter Tryd.func40, Tryd.ntmps40
    go_wp2_with fail
    go_ret
    exact ⟨rfl, rfl⟩
theorem mrange_ok (n : Int) (w : World) : Calls Tryd.prog 41 #[.int .i64 n] w fun e w' => e = .returned (.bool (wi n (-10000000000000) 10000000000000)) ∧ w' = w := by
  unfold wi
  by_cases h1 : -10000000000000 ≤ n
  · by_cases h2 : n ≤ 10000000000000
    · rw [show decide (-10000000000000 ≤ n ∧ n ≤ 10000000000000) = true by simp; omega]
      go_enter Tryd.func41, Tryd.ntmps41
      go_wp2_with fail
      go_ret
      exact ⟨rfl, rfl⟩
    · rw [show decide (-10000000000000 ≤ n ∧ n ≤ 10000000000000) = false by simp; omega]
      go_enter Tryd.func41, Tryd.ntmps41
      go_wp2_with fail
      go_ret
      exact ⟨rfl, rfl⟩
  · rw [show decide (-10000000000000 ≤ n ∧ n ≤ 10000000000000) = false by simp; omega]
    go_enter Tryd.func41, Tryd.ntmps41
    go_wp2_with fail
    go_ret
    exact ⟨rfl, rfl⟩
/-- an amount of money in form -/
def mform (c n : Int) : Bool := wi c 0 3 && wi n (-10000000000000) 10000000000000
theorem mcheck_ok (c n : Int) (w : World) : Calls Tryd.prog 28 #[.agg #[.int .i64 c, .int .i64 n]] w fun e w' => e = .returned (.int .i64 (if mform c n then 0 else 3)) ∧ Below w.heap.size w w' := by
  have B0 := (show Hid _ from (Below.refl w.heap.size w).alloc (Nat.le_refl _) (.cells #[.int .i64 c, .int .i64 n] 23))
  unfold mform
  by_cases h1 : wi c 0 3 = true
  · by_cases h2 : wi n (-10000000000000) 10000000000000 = true
    · rw [h1, h2]
      go_enter Tryd.func28, Tryd.ntmps28
      go_wp2_with fail
      refine (mcur_ok c _).mono ?_
      rintro e w1 ⟨rfl, hq⟩
      obtain rfl := hq.symm
      rw [h1]
      go_wp2_with fail
      refine (mrange_ok n _).mono ?_
      rintro e w1 ⟨rfl, hq⟩
      obtain rfl := hq.symm
      rw [h2]
      go_wp2_with fail
      go_ret
      exact ⟨rfl, B0.out⟩
    · rw [h1, Bool.eq_false_iff.2 h2]
      replace h2 : wi n (-10000000000000) 10000000000000 = false := by simpa using h2
      go_enter Tryd.func28, Tryd.ntmps28
      go_wp2_with fail
      refine (mcur_ok c _).mono ?_
      rintro e w1 ⟨rfl, hq⟩
      obtain rfl := hq.symm
      rw [h1]
      go_wp2_with fail
      refine (mrange_ok n _).mono ?_
      rintro e w1 ⟨rfl, hq⟩
      obtain rfl := hq.symm
      rw [h2]
      go_wp2_with fail
      go_ret
      exact ⟨rfl, B0.out⟩
  · rw [Bool.eq_false_iff.2 h1]
    replace h1 : wi c 0 3 = false := by simpa using h1
    go_enter Tryd.func28, Tryd.ntmps28
    go_wp2_with fail
    refine (mcur_ok c _).mono ?_
    rintro e w1 ⟨rfl, hq⟩
    obtain rfl := hq.symm
    rw [h1]
    go_wp2_with fail
    go_ret
    exact ⟨rfl, B0.out⟩
def mcl (c n : Int) : List Value := [.int .i64 c, .int .i64 n]
theorem mcl_one (c n : Int) : ∀ v ∈ mcl c n, v.oneCell' = true := by intro v hv; simp [mcl] at hv; rcases hv with rfl | rfl <;> rfl
theorem infoM : (Tryd.prog.info? 23).map (·.size) = some 2 := by kernel_rfl
end Go.Proofs.YtbgglghapjfdeaaDoor
