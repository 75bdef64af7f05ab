/- The law DecSpread: its arithmetic and its walk. -/
import Derived.Test.YtponhogmbbjnbaaQb
import Derived.LoopTactic
namespace Go.Proofs.Ytponhogmbbjnbaa
open Go.RowKit
set_option linter.unusedVariables false
attribute [local go_sem] ext_cell ext_frozen ext_drew ext_of_drew ext_of_drewN ext_setCell ext_lt ext_lt1 ext_lt2 ext_lt3 lt_n2 lt_n3 lt_n4 lt_n5 lt_n6

theorem up10_self (n s : Nat) : up10 n s (max s s) = n := by simp [up10]
theorem tot_same (a b : Int) (s : Nat) : sv (tot a s b s).1 (tot a s b s).2 = a + b := by
  unfold tot
  rw [padd_sv, up10_self, up10_self, sv_abs, sv_abs]
theorem sv_lt {neg : Bool} {n : Nat} (h : InR (sv neg n)) : (n : Int) < M127 := by
  have h1 := h.lo
  have h2 := h.hi
  unfold sv at h1 h2
  cases neg <;> simp at h1 h2 <;> omega
theorem add_same (a b : Int) (s : Nat) (w : World) (ha : InR a) (hb : InR b) (hab : InR (a + b)) (hs : (s : Int) ≤ 18) :
    Calls Try.prog 18 #[.agg #[.int .i64 (dhi a), .int .u64 (dlo a), .int .i64 s], .agg #[.int .i64 (dhi b), .int .u64 (dlo b), .int .i64 s]] w
      fun e w' => e = .returned (.tuple #[.agg #[.int .i64 (dhi (a + b)), .int .u64 (dlo (a + b)), .int .i64 s], .int .i64 0]) ∧ Below w.heap.size w w' := by
  have h := add_ok a _ _ b _ _ s s w (IsD.self a) (IsD.self b) ha hb hs hs (sv_lt (by rw [tot_same]; exact hab))
  rw [tot_same, Nat.max_self] at h
  exact h
theorem mul_split (x y : Int) (s t u mode : Nat) (w : World) (hx : InR x) (hy : InR y) (hs : (s : Int) ≤ 18) (ht : (t : Int) ≤ 18) (hu : (u : Int) ≤ 18) (hst : (u : Int) = s + t) (hm : (mode : Int) ≤ 6) (hr : InR (x * y)) :
    Calls Try.prog 14 #[.agg #[.int .i64 (dhi x), .int .u64 (dlo x), .int .i64 s], .agg #[.int .i64 (dhi y), .int .u64 (dlo y), .int .i64 t], .int .i64 u, .int .i64 mode] w
      fun e w' => e = .returned (.tuple #[.agg #[.int .i64 (dhi (x * y)), .int .u64 (dlo (x * y)), .int .i64 u], .int .i64 0]) ∧ Below w.heap.size w w' := by
  have e : rquo ((decide (x < 0)) != (decide (y < 0))) (x.natAbs * y.natAbs) 1 ((u : Int) - (s : Int) - (t : Int)) mode = x.natAbs * y.natAbs := by
    rw [show (u : Int) - (s : Int) - (t : Int) = 0 by omega]; exact rquo_one _ _ _
  have h := mul_ok x _ _ y _ _ s t u mode w (IsD.self x) (IsD.self y) hx hy hs ht hu hm (by
    rw [e, ← Int.natAbs_mul]; have := hr.lo; have := hr.hi; omega)
  rw [e, sv_mul] at h
  exact h
theorem mul_sum (a b y : Int) (s t u mode : Nat) (w : World) (hx : InR (a + b)) (hy : InR y) (hs : (s : Int) ≤ 18) (ht : (t : Int) ≤ 18) (hu : (u : Int) ≤ 18) (hst : (u : Int) = s + t) (hm : (mode : Int) ≤ 6) (hr : InR (a * y + b * y)) :
    Calls Try.prog 14 #[.agg #[.int .i64 (dhi (a + b)), .int .u64 (dlo (a + b)), .int .i64 s], .agg #[.int .i64 (dhi y), .int .u64 (dlo y), .int .i64 t], .int .i64 u, .int .i64 mode] w
      fun e w' => e = .returned (.tuple #[.agg #[.int .i64 (dhi (a * y + b * y)), .int .u64 (dlo (a * y + b * y)), .int .i64 u], .int .i64 0]) ∧ Below w.heap.size w w' := by
  have h := mul_split (a + b) y s t u mode w hx hy hs ht hu hst hm (by rw [Int.add_mul]; exact hr)
  rw [Int.add_mul] at h
  exact h

theorem mul_splitU (x y U : Int) (s t mode : Nat) (w : World) (hU : U = (s : Int) + t) (hx : InR x) (hy : InR y) (hs : (s : Int) ≤ 18) (ht : (t : Int) ≤ 18) (hu : (s : Int) + t ≤ 18) (hm : (mode : Int) ≤ 6) (hr : InR (x * y)) :
    Calls Try.prog 14 #[.agg #[.int .i64 (dhi x), .int .u64 (dlo x), .int .i64 s], .agg #[.int .i64 (dhi y), .int .u64 (dlo y), .int .i64 t], .int .i64 U, .int .i64 mode] w
      fun e w' => e = .returned (.tuple #[.agg #[.int .i64 (dhi (x * y)), .int .u64 (dlo (x * y)), .int .i64 U], .int .i64 0]) ∧ Below w.heap.size w w' := by
  obtain rfl : U = ((s + t : Nat) : Int) := by omega
  exact mul_split x y s t (s + t) mode w hx hy hs ht (by omega) (by omega) hm hr
theorem mul_sumU (a b y U : Int) (s t mode : Nat) (w : World) (hU : U = (s : Int) + t) (hx : InR (a + b)) (hy : InR y) (hs : (s : Int) ≤ 18) (ht : (t : Int) ≤ 18) (hu : (s : Int) + t ≤ 18) (hm : (mode : Int) ≤ 6) (hr : InR (a * y + b * y)) :
    Calls Try.prog 14 #[.agg #[.int .i64 (dhi (a + b)), .int .u64 (dlo (a + b)), .int .i64 s], .agg #[.int .i64 (dhi y), .int .u64 (dlo y), .int .i64 t], .int .i64 U, .int .i64 mode] w
      fun e w' => e = .returned (.tuple #[.agg #[.int .i64 (dhi (a * y + b * y)), .int .u64 (dlo (a * y + b * y)), .int .i64 U], .int .i64 0]) ∧ Below w.heap.size w w' := by
  obtain rfl : U = ((s + t : Nat) : Int) := by omega
  exact mul_sum a b y s t (s + t) mode w hx hy hs ht (by omega) (by omega) hm hr
theorem add_sameU (a b U : Int) (w : World) (h0 : 0 ≤ U) (ha : InR a) (hb : InR b) (hab : InR (a + b)) (hs : U ≤ 18) :
    Calls Try.prog 18 #[.agg #[.int .i64 (dhi a), .int .u64 (dlo a), .int .i64 U], .agg #[.int .i64 (dhi b), .int .u64 (dlo b), .int .i64 U]] w
      fun e w' => e = .returned (.tuple #[.agg #[.int .i64 (dhi (a + b)), .int .u64 (dlo (a + b)), .int .i64 U], .int .i64 0]) ∧ Below w.heap.size w w' := by
  obtain ⟨s, rfl⟩ : ∃ s : Nat, U = s := ⟨U.toNat, by omega⟩
  exact add_same a b s w ha hb hab hs

set_option maxHeartbeats 4000000 in
set_option maxRecDepth 100000 in
theorem spread_some (a b c i i' : Int) (s t : Nat) (hs : wrap64 (i.tmod 10) = (s : Int)) (ht : wrap64 (i'.tmod 9) = (t : Int)) (hsl : (s : Int) ≤ 9) (htl : (t : Int) ≤ 8)
    (ha64 : wrap64 a = a) (hb64 : wrap64 b = b) (hc64 : wrap64 c = c) (AR : InR a) (BR : InR b) (CR : InR c) (SR : InR (a + b)) (QR : InR (a * c)) (RR : InR (b * c)) (PR : InR (a * c + b * c))
    (AB : Hid (-2147483648 ≤ a ∧ a ≤ 2147483647)) (BB : Hid (-2147483648 ≤ b ∧ b ≤ 2147483647)) (CB : Hid (-2147483648 ≤ c ∧ c ≤ 2147483647)) (w : World) :
    Calls Try.prog 8 #[.int .i32 a, .int .i32 b, .int .i32 c, .int .u8 i, .int .u8 i'] w fun e w' => e = .returned (.bool true) ∧ Below w.heap.size w w' := by
  go_enter Try.func8, Try.ntmps8
  go_wp2_with fail
  refine (awake_any _).mono ?_
  rintro e w1 ⟨rfl, bb⟩
  have G := bb
  clear bb
  go_wp2_with fail
  refine (of_ok a s _ (by have := AB.out; omega) (by have := AB.out; omega) (by omega)).mono ?_
  rintro e w2 ⟨rfl, bb⟩
  have G := G.trans (bb.mono G.size)
  clear bb
  go_wp2_with fail
  refine (of_ok b s _ (by have := BB.out; omega) (by have := BB.out; omega) (by omega)).mono ?_
  rintro e w3 ⟨rfl, bb⟩
  have Ax := (at3_new w2 _ _ _ _).step bb
  have G := G.trans ((below_over bb).mono G.size)
  clear bb
  generalize w2.heap.size = px at *
  obtain ⟨x0, x1, x2, x3⟩ := Ax
  go_wp2_with fail
  refine (of_ok c t _ (by have := CB.out; omega) (by have := CB.out; omega) (by omega)).mono ?_
  rintro e w4 ⟨rfl, bb⟩
  have Ax := ((At3.mk x0 x1 x2 x3).alloc _).step bb
  clear x0 x1 x2 x3
  have Ay := (at3_new w3 _ _ _ _).step bb
  have G := G.trans ((below_over bb).mono G.size)
  clear bb
  generalize w3.heap.size = py at *
  obtain ⟨x0, x1, x2, x3⟩ := Ax
  obtain ⟨y0, y1, y2, y3⟩ := Ay
  go_wp2_with fail
  refine (add_same a b s _ AR BR SR (by omega)).mono ?_
  rintro e w5 ⟨rfl, bb⟩
  have Ax := ((At3.mk x0 x1 x2 x3).alloc _).step bb
  have Ay := ((At3.mk y0 y1 y2 y3).alloc _).step bb
  clear x0 x1 x2 x3 y0 y1 y2 y3
  have Az := (at3_new w4 _ _ _ _).step bb
  have G := G.trans ((below_over bb).mono G.size)
  clear bb
  generalize w4.heap.size = pz at *
  obtain ⟨x0, x1, x2, x3⟩ := Ax
  obtain ⟨y0, y1, y2, y3⟩ := Ay
  obtain ⟨z0, z1, z2, z3⟩ := Az
  go_wp2_with fail
  have Ax := (At3.mk x0 x1 x2 x3).alloc (.cells #[.int .i64 (dhi (a + b)), .int .u64 (dlo (a + b)), .int .i64 s] 24)
  have Ay := (At3.mk y0 y1 y2 y3).alloc (.cells #[.int .i64 (dhi (a + b)), .int .u64 (dlo (a + b)), .int .i64 s] 24)
  have Az := (At3.mk z0 z1 z2 z3).alloc (.cells #[.int .i64 (dhi (a + b)), .int .u64 (dlo (a + b)), .int .i64 s] 24)
  clear x0 x1 x2 x3 y0 y1 y2 y3 z0 z1 z2 z3
  have Au := at3_new w5 (.int .i64 (dhi (a + b))) (.int .u64 (dlo (a + b))) (.int .i64 s) 24
  have G := bel_alloc G (.cells #[.int .i64 (dhi (a + b)), .int .u64 (dlo (a + b)), .int .i64 s] 24)
  generalize w5.alloc (.cells #[.int .i64 (dhi (a + b)), .int .u64 (dlo (a + b)), .int .i64 s] 24) = w6 at *
  generalize w5.heap.size = pu at *
  obtain ⟨x0, x1, x2, x3⟩ := Ax
  obtain ⟨y0, y1, y2, y3⟩ := Ay
  obtain ⟨z0, z1, z2, z3⟩ := Az
  obtain ⟨u0, u1, u2, u3⟩ := Au
  have Ax := At3.mk x0 x1 x2 x3
  have Ay := At3.mk y0 y1 y2 y3
  have Az := At3.mk z0 z1 z2 z3
  have Au := At3.mk u0 u1 u2 u3
  clear x0 x1 x2 x3 y0 y1 y2 y3 z0 z1 z2 z3 u0 u1 u2 u3
  clear hs ht ha64 hb64 hc64
  go_loopw [85] (fun i wr => ∃ j : Nat, j ≤ 7 ∧ i = .int .i64 j ∧ At3 wr px (.int .i64 (dhi a)) (.int .u64 (dlo a)) (.int .i64 s) ∧ At3 wr py (.int .i64 (dhi b)) (.int .u64 (dlo b)) (.int .i64 s) ∧ At3 wr pz (.int .i64 (dhi c)) (.int .u64 (dlo c)) (.int .i64 t) ∧ At3 wr pu (.int .i64 (dhi (a + b))) (.int .u64 (dlo (a + b))) (.int .i64 s) ∧ Below w.heap.size w wr) (fun i _ => 7 - (intOf i).toNat)
  case atStart => exact ⟨0, by omega, rfl, Ax, Ay, Az, Au, G⟩
  case round =>
    clear Ax Ay Az Au G
    obtain ⟨j, hj, rfl, Ax, Ay, Az, Au, G⟩ := hrel
    by_cases hj7 : j = 7
    · subst hj7
      clear Ax Ay Az Au
      go_wp2_with fail
      refine bodyPost_ret (v := .bool true) (by simp [results, Try.results8, go_sem]) rfl ⟨rfl, ?_⟩
      exact G
    have hj6 : (j : Int) ≤ 6 := by omega
    obtain ⟨x0, x1, x2, x3⟩ := Ax
    obtain ⟨y0, y1, y2, y3⟩ := Ay
    obtain ⟨z0, z1, z2, z3⟩ := Az
    obtain ⟨u0, u1, u2, u3⟩ := Au
    go_wp2_with fail
    refine (mul_sumU a b c _ s t j _ rfl SR CR (by omega) (by omega) (by omega) (by omega) PR).mono ?_
    rintro e w7 ⟨rfl, bb⟩
    have Ax := ((At3.mk x0 x1 x2 x3)).step bb
    have Ay := ((At3.mk y0 y1 y2 y3)).step bb
    have Az := ((At3.mk z0 z1 z2 z3)).step bb
    have Au := ((At3.mk u0 u1 u2 u3)).step bb
    clear x0 x1 x2 x3 y0 y1 y2 y3 z0 z1 z2 z3 u0 u1 u2 u3
    have G := G.trans (bb.mono G.size)
    clear bb
    obtain ⟨x0, x1, x2, x3⟩ := Ax
    obtain ⟨y0, y1, y2, y3⟩ := Ay
    obtain ⟨z0, z1, z2, z3⟩ := Az
    obtain ⟨u0, u1, u2, u3⟩ := Au
    go_wp2_with fail
    refine (mul_splitU a c _ s t j _ rfl AR CR (by omega) (by omega) (by omega) (by omega) QR).mono ?_
    rintro e w8 ⟨rfl, bb⟩
    have Ax := ((At3.mk x0 x1 x2 x3).alloc _).step bb
    have Ay := ((At3.mk y0 y1 y2 y3).alloc _).step bb
    have Az := ((At3.mk z0 z1 z2 z3).alloc _).step bb
    have Au := ((At3.mk u0 u1 u2 u3).alloc _).step bb
    clear x0 x1 x2 x3 y0 y1 y2 y3 z0 z1 z2 z3 u0 u1 u2 u3
    have Ap := (at3_new w7 _ _ _ _).step bb
    have G := G.trans ((below_over bb).mono G.size)
    clear bb
    generalize w7.heap.size = pp at *
    obtain ⟨x0, x1, x2, x3⟩ := Ax
    obtain ⟨y0, y1, y2, y3⟩ := Ay
    obtain ⟨z0, z1, z2, z3⟩ := Az
    obtain ⟨u0, u1, u2, u3⟩ := Au
    obtain ⟨p0, p1, p2, p3⟩ := Ap
    go_wp2_with fail
    refine (mul_splitU b c _ s t j _ rfl BR CR (by omega) (by omega) (by omega) (by omega) RR).mono ?_
    rintro e w9 ⟨rfl, bb⟩
    have Ax := ((At3.mk x0 x1 x2 x3).alloc _).step bb
    have Ay := ((At3.mk y0 y1 y2 y3).alloc _).step bb
    have Az := ((At3.mk z0 z1 z2 z3).alloc _).step bb
    have Au := ((At3.mk u0 u1 u2 u3).alloc _).step bb
    have Ap := ((At3.mk p0 p1 p2 p3).alloc _).step bb
    clear x0 x1 x2 x3 y0 y1 y2 y3 z0 z1 z2 z3 u0 u1 u2 u3 p0 p1 p2 p3
    have Aq := (at3_new w8 _ _ _ _).step bb
    have G := G.trans ((below_over bb).mono G.size)
    clear bb
    generalize w8.heap.size = pq at *
    obtain ⟨x0, x1, x2, x3⟩ := Ax
    obtain ⟨y0, y1, y2, y3⟩ := Ay
    obtain ⟨z0, z1, z2, z3⟩ := Az
    obtain ⟨u0, u1, u2, u3⟩ := Au
    obtain ⟨p0, p1, p2, p3⟩ := Ap
    obtain ⟨q0, q1, q2, q3⟩ := Aq
    go_wp2_with fail
    refine (add_sameU (a * c) (b * c) _ _ (by omega) QR RR PR (by omega)).mono ?_
    rintro e w10 ⟨rfl, bb⟩
    have Ax := ((At3.mk x0 x1 x2 x3).alloc _).step bb
    have Ay := ((At3.mk y0 y1 y2 y3).alloc _).step bb
    have Az := ((At3.mk z0 z1 z2 z3).alloc _).step bb
    have Au := ((At3.mk u0 u1 u2 u3).alloc _).step bb
    have Ap := ((At3.mk p0 p1 p2 p3).alloc _).step bb
    have Aq := ((At3.mk q0 q1 q2 q3).alloc _).step bb
    clear x0 x1 x2 x3 y0 y1 y2 y3 z0 z1 z2 z3 u0 u1 u2 u3 p0 p1 p2 p3 q0 q1 q2 q3
    have Ar := (at3_new w9 _ _ _ _).step bb
    have G := G.trans ((below_over bb).mono G.size)
    clear bb
    generalize w9.heap.size = pr at *
    obtain ⟨x0, x1, x2, x3⟩ := Ax
    obtain ⟨y0, y1, y2, y3⟩ := Ay
    obtain ⟨z0, z1, z2, z3⟩ := Az
    obtain ⟨u0, u1, u2, u3⟩ := Au
    obtain ⟨p0, p1, p2, p3⟩ := Ap
    obtain ⟨q0, q1, q2, q3⟩ := Aq
    obtain ⟨r0, r1, r2, r3⟩ := Ar
    go_wp2_with fail
    have Ax := (At3.mk x0 x1 x2 x3).alloc (.cells #[.int .i64 (dhi (a * c + b * c)), .int .u64 (dlo (a * c + b * c)), .int .i64 ((s : Int) + t)] 24)
    have Ay := (At3.mk y0 y1 y2 y3).alloc (.cells #[.int .i64 (dhi (a * c + b * c)), .int .u64 (dlo (a * c + b * c)), .int .i64 ((s : Int) + t)] 24)
    have Az := (At3.mk z0 z1 z2 z3).alloc (.cells #[.int .i64 (dhi (a * c + b * c)), .int .u64 (dlo (a * c + b * c)), .int .i64 ((s : Int) + t)] 24)
    have Au := (At3.mk u0 u1 u2 u3).alloc (.cells #[.int .i64 (dhi (a * c + b * c)), .int .u64 (dlo (a * c + b * c)), .int .i64 ((s : Int) + t)] 24)
    clear x0 x1 x2 x3 y0 y1 y2 y3 z0 z1 z2 z3 u0 u1 u2 u3 p0 p1 p2 p3 q0 q1 q2 q3 r0 r1 r2 r3
    have G := bel_alloc G (.cells #[.int .i64 (dhi (a * c + b * c)), .int .u64 (dlo (a * c + b * c)), .int .i64 ((s : Int) + t)] 24)
    generalize w10.alloc (.cells #[.int .i64 (dhi (a * c + b * c)), .int .u64 (dlo (a * c + b * c)), .int .i64 ((s : Int) + t)] 24) = w11 at *
    generalize w10.heap.size = ph at *
    obtain ⟨x0, x1, x2, x3⟩ := Ax
    obtain ⟨y0, y1, y2, y3⟩ := Ay
    obtain ⟨z0, z1, z2, z3⟩ := Az
    obtain ⟨u0, u1, u2, u3⟩ := Au
    go_roundw
    case rel => exact ⟨j + 1, by omega, by go_num, At3.mk x0 x1 x2 x3, At3.mk y0 y1 y2 y3, At3.mk z0 z1 z2 z3, At3.mk u0 u1 u2 u3, G⟩
    case measure => simp [intOf]; omega

theorem u8_mod {i : Int} (k : Int) (h : (Lit.int .u8 i).wf = true) (hk : 0 < k) (hk2 : k ≤ 100) : ∃ s : Nat, wrap64 (i.tmod k) = (s : Int) ∧ (s : Int) ≤ k - 1 := by
  have hi : 0 ≤ i ∧ i ≤ 255 := by simpa [Lit.wf, IntKind.min, IntKind.max, IntKind.signed, IntKind.bits] using h
  have h1 := Int.emod_nonneg i (show k ≠ 0 by omega)
  have h2 := Int.emod_lt_of_pos i hk
  refine ⟨(i % k).toNat, ?_, ?_⟩
  · rw [Int.tmod_eq_emod_of_nonneg hi.1]; unfold wrap64; omega
  · omega
theorem spread_walk (a b c i j : Int) (w0 : (Lit.int .i32 a).wf = true) (w1 : (Lit.int .i32 b).wf = true) (w2 : (Lit.int .i32 c).wf = true) (w3 : (Lit.int .u8 i).wf = true) (w4 : (Lit.int .u8 j).wf = true) (w : World) :
    Calls Try.prog 8 #[.int .i32 a, .int .i32 b, .int .i32 c, .int .u8 i, .int .u8 j] w fun e w' => e = .returned (.bool true) ∧ Below w.heap.size w w' := by
  obtain ⟨s, hs, hsl⟩ := u8_mod 10 w3 (by decide) (by decide)
  obtain ⟨t, ht, htl⟩ := u8_mod 9 w4 (by decide) (by decide)
  have ar := bounds_i32 w0
  have br := bounds_i32 w1
  have cr := bounds_i32 w2
  have m1 := mul_small ar cr
  have m2 := mul_small br cr
  exact spread_some a b c i j s t hs ht (by omega) (by omega)
    (by unfold wrap64; omega) (by unfold wrap64; omega) (by unfold wrap64; omega) (small_in (by omega) (by omega)) (small_in (by omega) (by omega)) (small_in (by omega) (by omega)) (small_in (by omega) (by omega))
    (small_in m1.1 m1.2) (small_in m2.1 m2.2) ⟨by rw [M127_eq]; omega, by rw [M127_eq]; omega⟩ ar br cr w
end Go.Proofs.Ytponhogmbbjnbaa
