/- Sums at any scale; equal; what the laws of three decimals lean on. -/
import Derived.Test.YtlgcbbnnldlooaaDoorQa
import Derived.Test.YtlgcbbnnldlooaaDoorPg
namespace Go.Proofs.YtlgcbbnnldlooaaDoor
open Go.RowKit
set_option linter.unusedVariables false
attribute [local go_sem] ext_cell ext_frozen ext_drew ext_of_drew ext_of_drewN ext_setCell ext_lt ext_lt1 ext_lt2 ext_lt3 lt_n2 lt_n3 lt_n4 lt_n5 lt_n6

theorem up_up (c : Int) {s m t : Nat} (h1 : s ≤ m) (h2 : m ≤ t) : c * (10 : Int) ^ (m - s) * (10 : Int) ^ (t - m) = c * (10 : Int) ^ (t - s) := by
  rw [Int.mul_assoc, ← Int.pow_add, show m - s + (t - m) = t - s by omega]
/-- a sum at any greater scale -/
theorem tv_up (a : Int) (s : Nat) (b : Int) (u t : Nat) (h : max s u ≤ t) : tv a s b u * (10 : Int) ^ (t - max s u) = a * (10 : Int) ^ (t - s) + b * (10 : Int) ^ (t - u) := by
  unfold tv
  rw [Int.add_mul, up_up a (by omega) h, up_up b (by omega) h]
theorem pow10_pos (k : Nat) : (0 : Int) < (10 : Int) ^ k := Int.pow_pos (by decide)
theorem sgn_mul (c : Int) {k : Int} (hk : 0 < k) : sgn (c * k) = sgn c := by
  unfold sgn
  rcases Int.lt_trichotomy c 0 with h | h | h
  · rw [if_pos h, if_pos (Int.mul_neg_of_neg_of_pos h hk)]
  · subst h; simp
  · have := Int.mul_pos h hk
    rw [if_neg (by omega), if_neg (by omega), if_neg (by omega), if_neg (by omega)]
/-- what is added to both makes no difference -/
theorem tv_cancel (ca : Int) (sa : Nat) (cb : Int) (sb : Nat) (cc : Int) (sc : Nat) :
    sgn (tv (tv ca sa cc sc) (max sa sc) (-(tv cb sb cc sc)) (max sb sc)) = sgn (tv ca sa (-cb) sb) := by
  obtain ⟨T, hT⟩ : ∃ T, T = max (max sa sc) (max sb sc) := ⟨_, rfl⟩
  have e1 : tv (tv ca sa cc sc) (max sa sc) (-(tv cb sb cc sc)) (max sb sc) = tv ca sa cc sc * (10 : Int) ^ (T - max sa sc) + -(tv cb sb cc sc) * (10 : Int) ^ (T - max sb sc) := by rw [hT]; rfl
  have e2 := tv_up ca sa cc sc T (by omega)
  have e3 := tv_up cb sb cc sc T (by omega)
  have e4 := tv_up ca sa (-cb) sb T (by omega)
  have e5 : tv (tv ca sa cc sc) (max sa sc) (-(tv cb sb cc sc)) (max sb sc) = tv ca sa (-cb) sb * (10 : Int) ^ (T - max sa sb) := by
    rw [e1, e2, Int.neg_mul, e3, e4, Int.neg_mul]; omega
  rw [e5, sgn_mul _ (pow10_pos _)]
theorem cmp_self (c : Int) (s : Nat) (w : World) (ic : InR c) (hs : (s : Int) ≤ 18) :
    Calls Tryd.prog 48 #[.agg #[.int .i64 (dhi c), .int .u64 (dlo c), .int .i64 s], .agg #[.int .i64 (dhi c), .int .u64 (dlo c), .int .i64 s]] w
      fun e w' => e = .returned (.tuple #[.int .i64 0, .int .i64 0]) ∧ Below w.heap.size w w' := by
  have h := cmp_yes c c s s w ic ic hs hs
  rw [tv_self, show sgn 0 = 0 from rfl] at h
  exact h
theorem cmp_back (ca : Int) (sa : Nat) (cb : Int) (sb : Nat) : sgn (tv cb sb (-ca) sa) = -(sgn (tv ca sa (-cb) sb)) := by
  rw [tv_comm, ← sgn_neg, ← tv_neg, Int.neg_neg]
theorem add_some (ca : Int) (sa : Nat) (hc lc sc : Int) (ia : InR ca) (hsa : (sa : Int) ≤ 18) (wh : (Lit.int .i64 hc).wf = true) (wl : (Lit.int .u64 lc).wf = true) :
    ∃ x0 x1 x2 e : Int, (∀ w, Calls Tryd.prog 20 #[.agg #[.int .i64 (dhi ca), .int .u64 (dlo ca), .int .i64 sa], .agg #[.int .i64 hc, .int .u64 lc, .int .i64 sc]] w
      fun r w' => r = .returned (.tuple #[.agg #[.int .i64 x0, .int .u64 x1, .int .i64 x2], .int .i64 e]) ∧ Below w.heap.size w w') := by
  rcases form_cases hc lc sc wh wl with hb | ⟨cc, n, rfl, rfl, rfl, ic, hn⟩
  · exact ⟨0, 0, 0, 3, fun w => add_bad _ _ _ _ _ _ w (fun w => both_bad2 ca _ _ _ _ _ sa w (IsD.self _) ia hsa hb)⟩
  · by_cases h : InR (tv ca sa cc n)
    · exact ⟨_, _, _, _, fun w => add_yes ca cc sa n w ia ic hsa hn h⟩
    · exact ⟨_, _, _, _, fun w => add_not ca cc sa n w ia ic hsa hn h⟩
end Go.Proofs.YtlgcbbnnldlooaaDoor
