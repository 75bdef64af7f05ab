/- The contracts of Div64 at every divisor above the high word, and of a wide number over a word (package dec). -/
import Derived.Test.YtcnigpkmedgbdaaDoorWh
import Derived.Test.YtcnigpkmedgbdaaDoorWe
namespace Go.Proofs.YtcnigpkmedgbdaaDoor
open Go.RowKit
set_option linter.unusedVariables false

set_option maxHeartbeats 400000 in
set_option maxRecDepth 100000 in
theorem div64_small (lo y : Nat) (w : World) (h1 : 0 < y) (h2 : y ≤ 18446744073709551615) (h3 : lo ≤ 18446744073709551615) :
    Calls Tryd.prog 61 #[.int .u64 0, .int .u64 lo, .int .u64 y] w fun e w' => e = .returned (.tuple #[.int .u64 ((lo / y : Nat) : Int), .int .u64 ((lo % y : Nat) : Int)]) ∧ Below w.heap.size w w' := by
  have c0 : ((y : Int) == 0) = false := beq_eq_false_iff_ne.2 (by omega)
  have c1 : ¬ (y : Int) = 0 := by omega
  have c2 : ¬ (y : Int) ≤ 0 := by omega
  have e1 : IntKind.u64.wrap ((lo : Int) / (y : Int)) = ((lo / y : Nat) : Int) := wrap_ediv (by omega)
  have e2 : IntKind.u64.wrap ((lo : Int) % (y : Int)) = ((lo % y : Nat) : Int) := by
    have : lo % y < y := Nat.mod_lt _ h1
    rw [← Int.natCast_emod, IntKind.wrap_u64]
    generalize lo % y = z at *
    omega
  go_enter Tryd.func61, Tryd.ntmps61
  go_wp2
  go_quiet (fail)
  go_wp2
  go_ret2
  refine ⟨rfl, ?_⟩
  repeat (first | exact Below.refl _ _ | refine Below.drew ?_ | refine below_drewN ?_ _ | refine bel_alloc ?_ _ | refine bel_ext ?_ _ | (refine Below.setCell ?_ ?_ _; rotate_left; (simp <;> omega)))

theorem div64_any (hi lo y : Nat) (w : World) (h1 : hi < y) (h2 : y < B) (h3 : lo < B) :
    Calls Tryd.prog 61 #[.int .u64 hi, .int .u64 lo, .int .u64 y] w fun e w' => e = .returned (.tuple #[.int .u64 (((hi * B + lo) / y : Nat) : Int), .int .u64 (((hi * B + lo) % y : Nat) : Int)]) ∧ Below w.heap.size w w' := by
  rw [B_eq] at *
  rcases Nat.eq_zero_or_pos hi with rfl | h0
  · rw [Nat.zero_mul, Nat.zero_add]
    exact div64_small lo y w h1 (by omega) (by omega)
  · refine (div64_big hi lo y w h1 (by omega) (by omega) h0).mono ?_
    rintro e w' ⟨rfl, rfl⟩
    exact ⟨rfl, Below.refl _ _⟩

theorem wd_low (n : Nat) (h : n < B) : wd n 0 = (n : Int) := by simp [wd, Nat.mod_eq_of_lt h]
theorem wd_high (n i : Nat) (h : n < B) (hi : 0 < i) : wd n i = 0 := by
  have : n / B ^ i = 0 := Nat.div_eq_of_lt (Nat.lt_of_lt_of_le h (by
    have := Nat.pow_le_pow_right B_pos hi
    rwa [Nat.pow_one] at this))
  simp [wd, this]

/-! a wide number over a word: from the top word down -/
set_option maxHeartbeats 1000000 in
set_option maxRecDepth 100000 in
theorem divWord_any (m d : Nat) (a0 a1 a2 a3 a4 : Int) (w : World) (ha : IsW m a0 a1 a2 a3 a4) (hd : 0 < d) (hdB : d < B) (hm : m < B ^ 5) :
    Calls Tryd.prog 92 #[.agg #[.int .u64 a0, .int .u64 a1, .int .u64 a2, .int .u64 a3, .int .u64 a4], .int .u64 d] w
      fun e w' => e = .returned (.tuple #[.agg #[.int .u64 (wd (m / d) 0), .int .u64 (wd (m / d) 1), .int .u64 (wd (m / d) 2), .int .u64 (wd (m / d) 3), .int .u64 (wd (m / d) 4)], .agg #[.int .u64 (wd (m % d) 0), .int .u64 (wd (m % d) 1), .int .u64 (wd (m % d) 2), .int .u64 (wd (m % d) 3), .int .u64 (wd (m % d) 4)]]) ∧ Below w.heap.size w w' := by
  obtain ⟨rfl, rfl, rfl, rfl, rfl⟩ := ha
  have hc : ∀ i (w : World), Calls Tryd.prog 61 #[.int .u64 ((m / B ^ (i + 1) % d : Nat) : Int), .int .u64 (wd m i), .int .u64 d] w fun e w' => e = .returned (.tuple #[.int .u64 (wd (m / d) i), .int .u64 ((m / B ^ i % d : Nat) : Int)]) ∧ Below w.heap.size w w' := by
    intro i w
    have := div64_any (m / B ^ (i + 1) % d) (wn m i) d w (Nat.mod_lt _ hd) hdB (wn_lt m i)
    rw [(dword m d i hd).1, (dword m d i hd).2] at this
    exact this
  have HC := (show Hid _ from hc)
  clear hc
  go_enter Tryd.func92, Tryd.ntmps92
  go_wp2
  go_loopw [6, 7] (fun r i wr => ∃ k : Nat, k ≤ 5 ∧ i = .int .i64 ((k : Int) - 1) ∧ r = .int .u64 ((m / B ^ k % d : Nat) : Int) ∧
      (∀ j, j < k → wr.cell? ⟨w.heap.size, j, none⟩ = some (.int .u64 (wd m j))) ∧ (∀ j, k ≤ j → j < 5 → wr.cell? ⟨w.heap.size, j, none⟩ = some (.int .u64 (wd (m / d) j))) ∧ (∀ j, j < 5 → wr.frozen? ⟨w.heap.size, j, none⟩ = false) ∧
      Row5 wr (w.heap.size + 1) 0 0 ∧ Row5 wr (w.heap.size + 1 + 1) 0 0 ∧ w.heap.size + 1 + 1 < wr.heap.size ∧ Below w.heap.size w wr)
    (fun _ i _ => (intOf i + 1).toNat)
  case atStart =>
    refine ⟨5, by omega, rfl, ?_, ?_, ?_, ?_, ?_, ?_, ?_, ?_⟩
    · rw [Nat.div_eq_of_lt hm]; simp
    · intro j hj
      match j, hj with
      | 0, _ => simp [go_sem]
      | 1, _ => simp [go_sem]
      | 2, _ => simp [go_sem]
      | 3, _ => simp [go_sem]
      | 4, _ => simp [go_sem]
    · intro j h1 h2; omega
    · intro j hj; simp [go_sem]
    · constructor <;> simp [go_sem, wd_zero]
    · constructor <;> simp [go_sem, wd_zero]
    · simp
    · repeat (first | exact Below.refl _ _ | refine Below.drew ?_ | refine below_drewN ?_ _ | refine bel_alloc ?_ _ | refine bel_ext ?_ _ | (refine Below.setCell ?_ ?_ _; rotate_left; (simp <;> omega)))
  case round =>
    obtain ⟨k, hk, rfl, rfl, C1, C2, C3, R1, R2, hsz, hbel⟩ := hrel
    match k, hk with
    | k + 1, hk =>
      have hk5 : (k : Int) < 5 := by omega
      rw [show (((k + 1 : Nat) : Int) - 1) = (k : Int) by omega]
      have c0 := C1 k (by omega)
      go_wp2_with fail
      refine (HC.out k wr).mono ?_
      rintro e w1 ⟨rfl, hb1⟩
      have d0 : w1.cell? ⟨w.heap.size, k, none⟩ = some (.int .u64 (wd m k)) := by rw [hb1.cell (p := ⟨w.heap.size, k, none⟩) (show w.heap.size < wr.heap.size by omega)]; exact c0
      have f0 : w1.frozen? ⟨w.heap.size, k, none⟩ = false := by rw [hb1.frozen (p := ⟨w.heap.size, k, none⟩) (show w.heap.size < wr.heap.size by omega)]; exact C3 k (by omega)
      clear c0
      have D1 := (show Hid _ from C1)
      have D2 := (show Hid _ from C2)
      have D3 := (show Hid _ from C3)
      clear C1 C2 C3
      go_wp2
      go_roundw
      case rel =>
        have s1 := hb1.size
        refine ⟨k, by omega, rfl, rfl, ?_, ?_, ?_, (R1.below hb1 (by omega)).setCell (by simp) _, (R2.below hb1 (by omega)).setCell (by simp; omega) _, by rw [World.size_setCell]; omega, ?_⟩
        · intro j hj
          rw [World.cell?_setCell_other _ _ _ _ (ne_addr (by omega)), hb1.cell (p := ⟨w.heap.size, j, none⟩) (show w.heap.size < wr.heap.size by omega)]
          exact D1.out j (by omega)
        · intro j h1 h2
          rcases Nat.eq_or_lt_of_le h1 with e | e
          · subst e
            exact World.cell?_setCell_same _ _ _ d0
          · rw [World.cell?_setCell_other _ _ _ _ (ne_addr (by omega)), hb1.cell (p := ⟨w.heap.size, j, none⟩) (show w.heap.size < wr.heap.size by omega)]
            exact D2.out j (by omega) h2
        · intro j hj
          rw [World.frozen?_setCell, hb1.frozen (p := ⟨w.heap.size, j, none⟩) (show w.heap.size < wr.heap.size by omega)]
          exact D3.out j hj
        · exact (hbel.trans (hb1.mono (by omega))).setCell (by simp) _
      case measure => simp [intOf]
    | 0, hk =>
      have c0 := C2 0 (by omega) (by omega)
      have c1 := C2 1 (by omega) (by omega)
      have c2 := C2 2 (by omega) (by omega)
      have c3 := C2 3 (by omega) (by omega)
      have c4 := C2 4 (by omega) (by omega)
      obtain ⟨d0, d1, d2, d3, d4, g0, g1, g2, g3, g4⟩ := R1.zero
      obtain ⟨e0, e1, e2, e3, e4, u0, u1, u2, u3, u4⟩ := R2.zero
      clear C1 C2 C3
      have lt := Nat.lt_trans (Nat.mod_lt m hd) hdB
      rw [show ((m / B ^ 0 % d : Nat) : Int) = wd (m % d) 0 by rw [wd_low _ lt]; simp]
      have z1 := wd_high (m % d) 1 lt (by decide)
      have z2 := wd_high (m % d) 2 lt (by decide)
      have z3 := wd_high (m % d) 3 lt (by decide)
      have z4 := wd_high (m % d) 4 lt (by decide)
      have HZ : Hid (wd (m % d) 1 = 0 ∧ wd (m % d) 2 = 0 ∧ wd (m % d) 3 = 0 ∧ wd (m % d) 4 = 0) := ⟨z1, z2, z3, z4⟩
      clear z1 z2 z3 z4
      go_wp2
      refine bodyPost_ret (v := .tuple #[.agg #[.int .u64 (wd (m / d) 0), .int .u64 (wd (m / d) 1), .int .u64 (wd (m / d) 2), .int .u64 (wd (m / d) 3), .int .u64 (wd (m / d) 4)], .agg #[.int .u64 (wd (m % d) 0), .int .u64 0, .int .u64 0, .int .u64 0, .int .u64 0]]) (by simp [results, Tryd.results92, go_sem, d0, d1, d2, d3, d4, e0, e1, e2, e3, e4]) rfl ⟨?_, ?_⟩
      · obtain ⟨z1, z2, z3, z4⟩ := HZ.out
        rw [z1, z2, z3, z4]
      · iterate 10 refine Below.setCell ?_ (by simp <;> omega) _
        exact hbel
end Go.Proofs.YtcnigpkmedgbdaaDoor
