/- accrue: awake. -/
import Derived.Test.YtmaikgebdegkgaaKd
import Derived.Test.YtmaikgebdegkgaaCh
namespace Go.Proofs.Ytmaikgebdegkgaa
open Go.RowKit
set_option linter.unusedVariables false

/-- a slice literal of tiers -/
theorem tr_new (w : World) (ts : List (Int × Int)) (n : Nat) (hl : ts.length = n) (hn : n ≤ 1000) (wf : ∀ t ∈ ts, I64 t.1 ∧ I64 t.2) (T : TypeId) : Tr (w.alloc (.cells (tcs ts).toArray T)) (.slice (some ⟨w.heap.size, 0, none⟩) n n) ts := by
  subst hl
  refine ⟨wf, _, _, rfl, Nat.le_refl _, by omega, fun h0 => ⟨w.heap.size, 0, rfl, by simp, fun k hk => ?_⟩⟩
  have g := tcs_get ts k hk
  rw [Nat.zero_add]
  exact ⟨(va_new w (tcs ts) T).cell _ g.1, (va_new w (tcs ts) T).cell _ g.2⟩
def t1 : List (Int × Int) := [(0, 36500000)]
def t2 : List (Int × Int) := [(0, 5), (1000, 6)]
theorem daily_a : dly 1000000 t1 1 365 0 = 100000000 := by decide +kernel
theorem parts_a : prts 1500 t2 2 = [1000, 500] := by decide
set_option maxRecDepth 100000 in
theorem awake_ok (w : World) : Calls Try.prog 9 #[] w fun e w' => e = .returned (.bool true) ∧ Below w.heap.size w w' := by
  have T1 := (show Hid _ from tr_new w t1 1 rfl (by omega) (by intro t ht; simp [t1] at ht; subst ht; constructor <;> constructor <;> decide) 25)
  have B0 := (show Hid _ from (Below.refl w.heap.size w).alloc (Nat.le_refl _) (.cells (tcs t1).toArray 25))
  go_enter Try.func9, Try.ntmps9
  go_wp2_with fail
  refine (Daily_ok 1000000 _ t1 1 1000 1001 1 365 0 _ T1.out (by omega) (by decide) (by omega) (fun w => cb.Part_1 1000 1001 w (by omega) (by omega) (by omega)) (by omega) (by omega)).mono ?_
  rintro e w1 ⟨hh, b1⟩
  rw [daily_a] at hh
  obtain rfl : e = .returned (.tuple #[.int .i64 100000000, .int .i64 0]) := by
    rcases hh with ⟨_, h⟩ | ⟨h, _⟩
    · exact h
    · exact absurd (by omega) h
  have B1 := (show Hid _ from B0.out.trans (b1.mono B0.out.size))
  have T2 := (show Hid _ from tr_new w1 t2 2 rfl (by omega) (by intro t ht; simp [t2] at ht; rcases ht with rfl | rfl <;> (constructor <;> constructor <;> decide)) 25)
  have B2 := (show Hid _ from B1.out.alloc B1.out.size (.cells (tcs t2).toArray 25))
  clear hh b1 B0 B1 T1
  go_wp2_with fail
  refine (Parts_ok 1500 _ t2 _ T2.out (by omega) (by decide)).mono ?_
  rintro e w2 ⟨⟨v, rfl, ho⟩, b2⟩
  rw [show t2.length = 2 from rfl, parts_a] at ho
  have O2 := (show Hid _ from ho.is)
  have B3 := (show Hid _ from B2.out.trans (b2.mono B2.out.size))
  clear ho b2 B2 T2
  go_wp2_with fail
  have B4 := (show Hid _ from B3.out.alloc B3.out.size (.cells (ci [1000, 500]).toArray 2))
  refine (sameInts_ok v _ [1000, 500] _ (O2.out.step ((Below.refl _ _).alloc (Nat.le_refl _) _)) (is_new w2 [1000, 500] 2 rfl (by omega) 2)).mono ?_
  rintro e w3 ⟨rfl, b3⟩
  have B5 := (show Hid _ from B4.out.trans (b3.mono B4.out.size))
  clear b3 B3 B4 O2
  go_wp2_with fail
  go_ret
  exact ⟨rfl, B5.out⟩
end Go.Proofs.Ytmaikgebdegkgaa
