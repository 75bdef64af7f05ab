/- accrue: the walk of AccrueModes. -/
import Derived.Test.YtmaikgebdegkgaaKi
namespace Go.Proofs.Ytmaikgebdegkgaa
open Go.RowKit
set_option linter.unusedVariables false

/-- the array behind k rounds -/
def ml (v : Nat → Int) (k : Nat) : List Value := (List.range 7).map fun i => Value.int .i64 (if i < k then v i else 0)
theorem ml_len (v : Nat → Int) (k : Nat) : (ml v k).length = 7 := by simp [ml]
theorem ml_zero (v : Nat → Int) : ml v 0 = [.int .i64 0, .int .i64 0, .int .i64 0, .int .i64 0, .int .i64 0, .int .i64 0, .int .i64 0] := rfl
theorem ml_all (v : Nat → Int) : ml v 7 = [.int .i64 (v 0), .int .i64 (v 1), .int .i64 (v 2), .int .i64 (v 3), .int .i64 (v 4), .int .i64 (v 5), .int .i64 (v 6)] := rfl
theorem ml_get (v : Nat → Int) (k : Nat) (h : k < 7) : (ml v k)[k]? = some (.int .i64 0) := by simp [ml, h]
theorem ml_set (v : Nat → Int) (k : Nat) (h : k < 7) : (ml v k).set k (.int .i64 (v k)) = ml v (k + 1) := by
  obtain rfl | rfl | rfl | rfl | rfl | rfl | rfl : k = 0 ∨ k = 1 ∨ k = 2 ∨ k = 3 ∨ k = 4 ∨ k = 5 ∨ k = 6 := by omega
  all_goals rfl
theorem Tr.upd {w w' : World} {b off n c lb : Nat} {ts : List (Int × Int)} (h : Tr w (.slice (some ⟨b, off, none⟩) n c) ts) (k : Upd lb w w') (hne : b ≠ lb) : Tr w' (.slice (some ⟨b, off, none⟩) n c) ts := by
  obtain ⟨hw, a, c', e, h1, h2, h3⟩ := h
  refine ⟨hw, a, c', e, h1, h2, fun h0 => ?_⟩
  obtain ⟨b', off', ea, hb, hx⟩ := h3 h0
  cases e
  cases ea
  exact ⟨b, off, rfl, by rw [k.size]; exact hb, fun j hj => ⟨(cell_upd k hne).trans (hx j hj).1, (cell_upd k hne).trans (hx j hj).2⟩⟩
theorem info7 : (Try.prog.info? 50).map (·.size) = some 7 := by kernel_rfl
theorem idx7 (x0 x1 x2 x3 x4 x5 x6 : Int) (k : Nat) (hk : k < 7) (w : World) : (Instr.index 50 (.agg #[.int .i64 x0, .int .i64 x1, .int .i64 x2, .int .i64 x3, .int .i64 x4, .int .i64 x5, .int .i64 x6]) (.int .i64 (k : Int))).run Try.prog w = .ok (.int .i64 ([x0, x1, x2, x3, x4, x5, x6].getD k 0)) w := by
  have h1 : (0 : Int) ≤ (k : Int) ∧ (k : Int) < 7 := by omega
  obtain rfl | rfl | rfl | rfl | rfl | rfl | rfl : k = 0 ∨ k = 1 ∨ k = 2 ∨ k = 3 ∨ k = 4 ∨ k = 5 ∨ k = 6 := by omega
  all_goals simp [Instr.index, run_underlying Try.underlying50, asIntOf, go_sem]
/-- an element of an array by value -/
theorem ixA {w : World} {ops : Array Oper} {rest : List Oper} {o : Oper} {a : Act} {Q : Exit → Act → World → Prop} (hgd : o.guard = none) (t : TypeId) (x y : Operand) (ho : o.op = .index t x y) (V : Value) (hrun : (Instr.index t (a.eval x) (a.eval y)).run Try.prog w = .ok V w)
    (k : wpList Try.prog ops Q rest (a.put o.dst V) w) : wpList Try.prog ops Q (o :: rest) a w := by
  refine wpList_plain hgd fun K hK' => ?_
  unfold Oper.wp execOp
  simp only [ho, Sem.run_bind, Sem.run_pure, Result.andThen_ok, hrun]
  exact hK' _ _ k
set_option maxRecDepth 100000 in
set_option maxHeartbeats 1000000 in
theorem modes_walk (p q s f m : Int) (w : World) (s1 : 0 ≤ s) (s2 : s ≤ 255) (f1 : 0 ≤ f) (f2 : f ≤ 65535) (m1 : 0 ≤ m) (m2 : m ≤ 255) :
    Calls Try.prog 8 #[.int .i64 p, .int .i64 q, .int .u8 s, .int .u16 f, .int .u8 m] w fun e w' => e = .returned (.bool true) ∧ Below w.heap.size w w' := by
  have a2 := um p 1000000000 (by omega) (by omega)
  have a3 := um q 1000000001 (by omega) (by omega)
  have HA2 := (show Hid _ from a2)
  have HA3 := (show Hid _ from a3)
  clear a2 a3
  go_enter Try.func8, Try.ntmps8
  go_upto_region 7 with (go_at_call 9; refine (awake_ok _).mono ?_; rintro e w1 ⟨rfl, b1⟩; have B1 := (show Hid _ from b1); clear b1)
  generalize wrap64 ((IntKind.u64.wrap p).tmod 1000000000) = B at *
  generalize wrap64 ((IntKind.u64.wrap q).tmod 1000000001) = R at *
  have hB : 0 ≤ B ∧ B ≤ 10000000000000 := by have := HA2.out; omega
  have hR : 0 ≤ R ∧ R ≤ 1000000000 := by have := HA3.out; omega
  have x0 : 0 ≤ B * R := Int.mul_nonneg hB.1 hR.1
  have x1 : B * R ≤ 1000000000 * 1000000000 := Int.mul_le_mul (by have := HA2.out; omega) hR.2 hR.1 (by omega)
  obtain ⟨NN, d, hd, hN, hP⟩ := part_ways (s % 4) (by omega) (by omega)
  have n1 := hN (1 + f) (1 + f + m) (by omega) (by omega) (by omega)
  have P1 := hP (1 + f) (1 + f + m) (by omega) (by omega) (by omega)
  obtain ⟨n, hn⟩ : ∃ n, n = NN (1 + f + m) - NN (1 + f) := ⟨_, rfl⟩
  rw [← hn] at n1
  simp only [← hn] at P1
  have n2 : n ≤ 256200 := n1.2.1 (by omega)
  have x2 : B * R * n ≤ 1000000000000000000 * 256200 := Int.mul_le_mul (by omega) n2 n1.1 (by omega)
  have x3 : 0 ≤ B * R * n := Int.mul_nonneg x0 n1.1
  have HP := (show Hid _ from P1)
  have HD := (show Hid _ from hd)
  have HNN := (show Hid _ from n1)
  have HX := (show Hid _ from And.intro x2 x3)
  have HB := (show Hid _ from hB)
  have HR := (show Hid _ from hR)
  obtain ⟨how, hhow⟩ : ∃ how, s % 4 = how := ⟨_, rfl⟩
  rw [hhow] at HP
  obtain ⟨v, hv⟩ : ∃ v : Nat → Int, v = fun i => ((rq (B * R * n) (d * 1000) i : Nat) : Int) := ⟨_, rfl⟩
  have hmod := rq_modes (N := B * R * n) (D := d * 1000)
  have HV : Hid (∀ i, ((rq (B * R * n) (d * 1000) i : Nat) : Int) = v i) := fun i => by rw [hv]
  have V0 : v 0 ≤ v 1 ∧ v 1 ≤ v 0 + 1 ∧ v 2 = v 0 ∧ v 3 = v 1 ∧ ∀ i, v i = v 0 ∨ v i = v 1 := by
    rw [hv]
    simp only []
    obtain ⟨h1, h2, h3, h4⟩ := hmod
    refine ⟨by omega, by omega, by omega, by omega, fun i => ?_⟩
    have := h4 i
    omega
  have V1 : ∀ i, 0 ≤ v i ∧ v i ≤ 4000000000000000000 := by
    intro i
    rw [hv]
    have b1 := rq_bound (mode := i) x3 (show 0 < d * 1000 by omega)
    have b2 : B * R * n / (d * 1000) ≤ 3999999999999999999 := Int.ediv_le_of_le_mul (by omega) (by omega)
    simp only []
    omega
  have HV0 := (show Hid _ from V0)
  have HV1 := (show Hid _ from V1)
  have T3 := (show Hid _ from (tr_new w1 [(0, R)] 1 rfl (by omega) (wf_one R hR) 25).step ((Below.refl _ _).alloc (Nat.le_refl _) (.cells (ml v 0).toArray 50)))
  have A3 := (show Hid _ from va_new (w1.alloc (.cells (tcs [(0, R)]).toArray 25)) (ml v 0) 50)
  have B3 := (show Hid _ from (B1.out.alloc B1.out.size (.cells (tcs [(0, R)]).toArray 25)).alloc (by have := B1.out.size; simp; omega) (.cells (ml v 0).toArray 50))
  rw [show (w1.alloc (.cells (tcs [(0, R)]).toArray 25)).heap.size = w1.heap.size + 1 by simp] at A3
  have s1' := B1.out.size
  clear HA2 HA3 hB hR x0 x1 x2 x3 n1 n2 hn hN hP hd P1 hmod hv V0 V1 B1
  change Code.wp _ _ _ _ ((w1.alloc (.cells (tcs [(0, R)]).toArray 25)).alloc (.cells (ml v 0).toArray 50))
  generalize (w1.alloc (.cells (tcs [(0, R)]).toArray 25)).alloc (.cells (ml v 0).toArray 50) = w3 at *
  have hlb : w.heap.size ≤ w1.heap.size + 1 := by omega
  generalize hlbe : w1.heap.size + 1 = lb at *
  have HNE : Hid (w1.heap.size ≠ lb) := (by omega : w1.heap.size ≠ lb)
  clear hlbe s1'
  generalize w1.heap.size = tb at *
  go_wp2_with fail
  go_loopw [35] (fun i wr => ∃ k : Nat, k ≤ 7 ∧ i = .int .i64 k ∧ Hid (VA wr lb (ml v k) 50) ∧ Hid (Tr wr (.slice (some ⟨tb, 0, none⟩) 1 1) [(0, R)]) ∧ Hid (Below w.heap.size w wr)) (fun i _ => 7 - (intOf i).toNat)
  case atStart => exact ⟨0, by omega, rfl, A3, T3, B3⟩
  case round =>
    obtain ⟨k, hk, rfl, ha, ht, hb⟩ := hrel
    by_cases hk7 : k = 7
    · subst hk7
      rw [ml_all] at ha
      obtain ⟨h1, h2, h3, h4, h5⟩ := HV0.out
      have g0 := HV1.out 0
      have g1 := HV1.out 1
      have HALL := (show Hid _ from h5)
      rw [h3, h4] at ha
      have o4 := h5 4
      have o5 := h5 5
      have o6 := h5 6
      clear h3 h4 h5
      generalize v 0 = x0 at *
      generalize v 1 = x1 at *
      generalize v 4 = x4 at *
      generalize v 5 = x5 at *
      generalize v 6 = x6 at *
      have HO := (show Hid _ from And.intro o4 (And.intro o5 o6))
      have c0 := ha.out.cell 0 (v := .int .i64 x0) rfl
      have c1 := ha.out.cell 1 (v := .int .i64 x1) rfl
      have c2 := ha.out.cell 2 (v := .int .i64 x0) rfl
      have c3 := ha.out.cell 3 (v := .int .i64 x1) rfl
      have hlt := ha.out.lt
      obtain ⟨g01, g02⟩ := g0
      obtain ⟨g11, g12⟩ := g1
      clear HV HV0 HV1 HALL o4 o5 o6
      go_wp2_with (refine ldA rfl 50 _ rfl lb (by rfl) [.int .i64 x0, .int .i64 x1, .int .i64 x0, .int .i64 x1, .int .i64 x4, .int .i64 x5, .int .i64 x6] _ ha.out _ Try.underlying50 rfl info7 ?_)
      go_loopw [60] (fun i wr2 => ∃ j : Nat, j ≤ 7 ∧ i = .int .i64 j ∧ wr2 = wr) (fun i _ => 7 - (intOf i).toNat)
      case atStart => exact ⟨0, by omega, rfl, rfl⟩
      case round =>
        obtain ⟨j, hj, rfl, rfl⟩ := hrel
        by_cases hj7 : j = 7
        · subst hj7
          have e1 : decide (x1 - x0 ≤ 1) = true := decide_eq_true (by omega)
          have e2 : decide (0 ≤ x1 - x0) = true := decide_eq_true (by omega)
          go_wp2_with fail
          go_ret
          exact ⟨rfl, hb.out⟩
        have hj' : j < 7 := by omega
        obtain ⟨o4, o5, o6⟩ := HO.out
        obtain rfl | rfl | rfl | rfl | rfl | rfl | rfl : j = 0 ∨ j = 1 ∨ j = 2 ∨ j = 3 ∨ j = 4 ∨ j = 5 ∨ j = 6 := by omega
        · clear o4 o5 o6
          clear HO
          go_wp2_with (refine ixA rfl _ _ _ rfl (.int .i64 x0) (idx7 _ _ _ _ _ _ _ 0 (by omega) _) ?_)
          exact ⟨⟨1, by omega, rfl, trivial⟩, by simp [intOf]⟩
        · by_cases hz : x1 = x0
          · subst hz
            clear o4 o5 o6
            clear HO
            go_wp2_with (refine ixA rfl _ _ _ rfl (.int .i64 _) (idx7 _ _ _ _ _ _ _ 1 (by omega) _) ?_)
            exact ⟨⟨2, by omega, rfl, trivial⟩, by simp [intOf]⟩
          · have ez : (x1 == x0) = false := by simpa using hz
            have ez2 : (x0 == x1) = false := by simpa using fun e => hz e.symm
            have ez3 : ¬ x0 = x1 := fun e => hz e.symm
            clear o4 o5 o6
            clear HO
            go_wp2_with (refine ixA rfl _ _ _ rfl (.int .i64 x1) (idx7 _ _ _ _ _ _ _ 1 (by omega) _) ?_)
            exact ⟨⟨2, by omega, rfl, trivial⟩, by simp [intOf]⟩
        · clear o4 o5 o6
          clear HO
          go_wp2_with (refine ixA rfl _ _ _ rfl (.int .i64 x0) (idx7 _ _ _ _ _ _ _ 2 (by omega) _) ?_)
          exact ⟨⟨3, by omega, rfl, trivial⟩, by simp [intOf]⟩
        · by_cases hz : x1 = x0
          · subst hz
            clear o4 o5 o6
            clear HO
            go_wp2_with (refine ixA rfl _ _ _ rfl (.int .i64 _) (idx7 _ _ _ _ _ _ _ 3 (by omega) _) ?_)
            exact ⟨⟨4, by omega, rfl, trivial⟩, by simp [intOf]⟩
          · have ez : (x1 == x0) = false := by simpa using hz
            have ez2 : (x0 == x1) = false := by simpa using fun e => hz e.symm
            have ez3 : ¬ x0 = x1 := fun e => hz e.symm
            clear o4 o5 o6
            clear HO
            go_wp2_with (refine ixA rfl _ _ _ rfl (.int .i64 x1) (idx7 _ _ _ _ _ _ _ 3 (by omega) _) ?_)
            exact ⟨⟨4, by omega, rfl, trivial⟩, by simp [intOf]⟩
        · rcases o4 with h | h
          · obtain rfl := h.symm
            clear o5 o6
            clear HO
            go_wp2_with (refine ixA rfl _ _ _ rfl (.int .i64 _) (idx7 _ _ _ _ _ _ _ 4 (by omega) _) ?_)
            exact ⟨⟨5, by omega, rfl, trivial⟩, by simp [intOf]⟩
          · obtain rfl := h.symm
            by_cases hz : x1 = x0
            · subst hz
              clear o5 o6
              clear HO
              go_wp2_with (refine ixA rfl _ _ _ rfl (.int .i64 _) (idx7 _ _ _ _ _ _ _ 4 (by omega) _) ?_)
              exact ⟨⟨5, by omega, rfl, trivial⟩, by simp [intOf]⟩
            · have ez : (x1 == x0) = false := by simpa using hz
              have ez2 : (x0 == x1) = false := by simpa using fun e => hz e.symm
              have ez3 : ¬ x0 = x1 := fun e => hz e.symm
              clear o5 o6
              clear HO
              go_wp2_with (refine ixA rfl _ _ _ rfl (.int .i64 _) (idx7 _ _ _ _ _ _ _ 4 (by omega) _) ?_)
              exact ⟨⟨5, by omega, rfl, trivial⟩, by simp [intOf]⟩
        · rcases o5 with h | h
          · obtain rfl := h.symm
            clear o4 o6
            clear HO
            go_wp2_with (refine ixA rfl _ _ _ rfl (.int .i64 _) (idx7 _ _ _ _ _ _ _ 5 (by omega) _) ?_)
            exact ⟨⟨6, by omega, rfl, trivial⟩, by simp [intOf]⟩
          · obtain rfl := h.symm
            by_cases hz : x1 = x0
            · subst hz
              clear o4 o6
              clear HO
              go_wp2_with (refine ixA rfl _ _ _ rfl (.int .i64 _) (idx7 _ _ _ _ _ _ _ 5 (by omega) _) ?_)
              exact ⟨⟨6, by omega, rfl, trivial⟩, by simp [intOf]⟩
            · have ez : (x1 == x0) = false := by simpa using hz
              have ez2 : (x0 == x1) = false := by simpa using fun e => hz e.symm
              have ez3 : ¬ x0 = x1 := fun e => hz e.symm
              clear o4 o6
              clear HO
              go_wp2_with (refine ixA rfl _ _ _ rfl (.int .i64 _) (idx7 _ _ _ _ _ _ _ 5 (by omega) _) ?_)
              exact ⟨⟨6, by omega, rfl, trivial⟩, by simp [intOf]⟩
        · rcases o6 with h | h
          · obtain rfl := h.symm
            clear o4 o5
            clear HO
            go_wp2_with (refine ixA rfl _ _ _ rfl (.int .i64 _) (idx7 _ _ _ _ _ _ _ 6 (by omega) _) ?_)
            exact ⟨⟨7, by omega, rfl, trivial⟩, by simp [intOf]⟩
          · obtain rfl := h.symm
            by_cases hz : x1 = x0
            · subst hz
              clear o4 o5
              clear HO
              go_wp2_with (refine ixA rfl _ _ _ rfl (.int .i64 _) (idx7 _ _ _ _ _ _ _ 6 (by omega) _) ?_)
              exact ⟨⟨7, by omega, rfl, trivial⟩, by simp [intOf]⟩
            · have ez : (x1 == x0) = false := by simpa using hz
              have ez2 : (x0 == x1) = false := by simpa using fun e => hz e.symm
              have ez3 : ¬ x0 = x1 := fun e => hz e.symm
              clear o4 o5
              clear HO
              go_wp2_with (refine ixA rfl _ _ _ rfl (.int .i64 _) (idx7 _ _ _ _ _ _ _ 6 (by omega) _) ?_)
              exact ⟨⟨7, by omega, rfl, trivial⟩, by simp [intOf]⟩
    have hk' : k < 7 := by omega
    have hlt7 : decide ((k : Int) < 7) = true := decide_eq_true (by omega)
    have hvk := HV1.out k
    obtain ⟨y, hy⟩ : ∃ y, y = v k := ⟨_, rfl⟩
    rw [← hy] at hvk
    have HYY := (show Hid _ from hy)
    clear hy
    go_wp2_with fail
    refine (Daily1 B R _ [(0, R)] how (1 + f) (1 + f + m) n d k _ ht.out HB.out (terr_one HR.out) (ysum_one B R HB.out.1) HR.out (by omega) HP.out ⟨HNN.out.1, HNN.out.2.2⟩ (by have := HD.out; omega) (by have := HX.out.1; omega) HD.out.1).mono ?_
    rintro e w4 ⟨rfl, b4⟩
    rw [HV.out, ← HYY.out]
    have a4 := ha.out.step b4
    have B4 := (show Hid _ from hb.out.trans (b4.mono hb.out.size))
    have T4 := (show Hid _ from ht.out.step b4)
    have A4 := (show Hid _ from a4)
    have ck := a4.cell k (ml_get v k hk')
    have fk := a4.free k
    have lk := a4.lt
    clear b4 a4
    go_wp2_with fail
    refine ⟨⟨k + 1, by omega, by simp, ?_, ?_, ?_⟩, by simp [intOf]; omega⟩
    · rw [← ml_set v k hk', ← HYY.out]
      exact A4.out.set k _
    · exact T4.out.upd (upd_set _ _ _ _) HNE.out
    · exact (upd_set _ _ _ _).bel B4.out hlb
end Go.Proofs.Ytmaikgebdegkgaa
