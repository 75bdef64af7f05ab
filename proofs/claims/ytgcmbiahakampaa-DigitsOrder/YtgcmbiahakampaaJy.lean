/- digits: DigitsOrder's walk. -/
import Derived.Test.YtgcmbiahakampaaJt
import Derived.Test.YtgcmbiahakampaaPg
import Derived.Lib.Bytes
namespace Go.Proofs.Ytgcmbiahakampaa
open Go.RowKit
set_option linter.unusedVariables false
set_option linter.unusedSimpArgs false

theorem tx_list (L : List Nat) : (tx L).toList = L.map UInt8.ofNat := by
  unfold tx
  rw [Go.Lib.strOfNums_toList]
  simp [Go.Lib.bytesOf]
theorem u8_lt {x y : Nat} (hx : x < 256) (hy : y < 256) : (UInt8.ofNat x < UInt8.ofNat y) ↔ x < y := by
  rw [UInt8.lt_iff_toNat_lt, UInt8.toNat_ofNat', UInt8.toNat_ofNat']
  omega
theorem u8_eq {x y : Nat} (hx : x < 256) (hy : y < 256) : (UInt8.ofNat x = UInt8.ofNat y) ↔ x = y := by
  rw [← UInt8.toNat_inj, UInt8.toNat_ofNat', UInt8.toNat_ofNat']
  omega
theorem cmp_step (P da db ra rb : Nat) (h1 : ra < P) (h2 : rb < P) : (ra + P * da < rb + P * db ↔ da < db ∨ (da = db ∧ ra < rb)) ∧ (ra + P * da = rb + P * db ↔ da = db ∧ ra = rb) := by
  rcases Nat.lt_trichotomy da db with h | h | h
  · have := Nat.mul_le_mul_left P (show da + 1 ≤ db from h)
    rw [Nat.mul_add, Nat.mul_one] at this
    constructor <;> omega
  · subst h
    constructor <;> omega
  · have := Nat.mul_le_mul_left P (show db + 1 ≤ da from h)
    rw [Nat.mul_add, Nat.mul_one] at this
    constructor <;> omega
theorem wrt_less (s a b : Nat) : ∀ K, Op.bytesLess ((wrt s a K).map UInt8.ofNat) ((wrt s b K).map UInt8.ofNat) = decide (a % 10 ^ K < b % 10 ^ K) ∧ ((wrt s a K = wrt s b K) ↔ a % 10 ^ K = b % 10 ^ K)
  | 0 => by simp [wrt, Op.bytesLess, Nat.mod_one]
  | K + 1 => by
    obtain ⟨ih1, ih2⟩ := wrt_less s a b K
    have hp : 0 < 10 ^ K := Nat.pow_pos (by decide)
    obtain ⟨c1, c2⟩ := cmp_step (10 ^ K) (a / 10 ^ K % 10) (b / 10 ^ K % 10) (a % 10 ^ K) (b % 10 ^ K) (Nat.mod_lt _ hp) (Nat.mod_lt _ hp)
    have ha := Nat.mod_lt (a / 10 ^ K) (show 10 > 0 by decide)
    have hb := Nat.mod_lt (b / 10 ^ K) (show 10 > 0 by decide)
    rw [Nat.mod_pow_succ, Nat.mod_pow_succ, wrt, wrt]
    generalize a / 10 ^ K % 10 = da at *
    generalize b / 10 ^ K % 10 = db at *
    have e1 : Op.bytesLess ((if K = s ∧ 0 < K then 46 :: wrt s a K else wrt s a K).map UInt8.ofNat) ((if K = s ∧ 0 < K then 46 :: wrt s b K else wrt s b K).map UInt8.ofNat) = decide (a % 10 ^ K < b % 10 ^ K) := by
      split
      · simp [Op.bytesLess, ih1]
      · exact ih1
    have e2 : ((if K = s ∧ 0 < K then 46 :: wrt s a K else wrt s a K) = (if K = s ∧ 0 < K then 46 :: wrt s b K else wrt s b K)) ↔ a % 10 ^ K = b % 10 ^ K := by
      split
      · simp [ih2]
      · exact ih2
    constructor
    · rw [List.map_cons, List.map_cons, Op.bytesLess, e1]
      have l1 := u8_lt (x := 48 + da) (y := 48 + db) (by omega) (by omega)
      have l2 := u8_eq (x := 48 + da) (y := 48 + db) (by omega) (by omega)
      rw [Bool.eq_iff_iff]
      simp only [Bool.or_eq_true, Bool.and_eq_true, decide_eq_true_eq, beq_iff_eq, l1, l2, c1]
      omega
    · rw [List.cons.injEq, e2, c2]
      omega
theorem map_back (L : List Nat) (h : ∀ x ∈ L, x < 256) : (L.map UInt8.ofNat).map UInt8.toNat = L := by
  rw [List.map_map]
  conv => rhs; rw [← List.map_id L]
  apply List.map_congr_left
  intro x hx
  have := h x hx
  simp only [Function.comp, UInt8.toNat_ofNat', id]
  omega
theorem tx_less (s a b K : Nat) (ha : a / 10 ^ K = 0) (hb : b / 10 ^ K = 0) : Op.bytesLess (tx (wrt s a K)).toList (tx (wrt s b K)).toList = decide (a < b) ∧ ((tx (wrt s a K)).toList = (tx (wrt s b K)).toList ↔ a = b) := by
  have hp : 0 < 10 ^ K := Nat.pow_pos (by decide)
  have h1 : a % 10 ^ K = a := Nat.mod_eq_of_lt (by rcases Nat.lt_or_ge a (10 ^ K) with h | h; exact h; have := Nat.div_pos h hp; omega)
  have h2 : b % 10 ^ K = b := Nat.mod_eq_of_lt (by rcases Nat.lt_or_ge b (10 ^ K) with h | h; exact h; have := Nat.div_pos h hp; omega)
  obtain ⟨e1, e2⟩ := wrt_less s a b K
  rw [h1, h2] at e1 e2
  rw [tx_list, tx_list]
  refine ⟨e1, fun h => e2.1 ?_, fun h => by rw [h]⟩
  rw [← map_back _ (wsm s a K), ← map_back _ (wsm s b K), h]
/-- fewer digits in front: less -/
theorem txt_less {t u : ByteArray} {n1 n2 : Bool} {i1 i2 h1 h2 sc a b : Nat} (T : Txt t n1 i1 h1 sc a) (U : Txt u n2 i2 h2 sc b) (h : h1 < h2) : a < b := by
  have hp : 0 < 10 ^ (sc + h1) := Nat.pow_pos (by decide)
  have h1' : a < 10 ^ (sc + h1) := by
    rcases Nat.lt_or_ge a (10 ^ (sc + h1)) with k | k
    · exact k
    · have := Nat.div_pos k hp
      have := T.top
      omega
  have h3 : 10 ^ (sc + h1) ≤ 10 ^ (sc + h2 - 1) := Nat.pow_le_pow_right (by decide) (by omega)
  have h4 : 10 ^ (sc + h2 - 1) ≤ b := by
    have hl := U.ld
    have := T.hp
    rcases Nat.lt_or_ge b (10 ^ (sc + h2 - 1)) with k | k
    · have := Nat.div_eq_of_lt k
      omega
    · exact k
  omega
/-- the two texts, and how they stand -/
structure TwoT (sc a b : Nat) (t u : ByteArray) : Prop where
  w1 : ∀ w, Calls Try.prog 9 #[.agg #[.int .i64 0, .int .u64 (a : Int), .int .i64 (sc : Int)]] w fun e w' => e = .returned (.tuple #[.string t, .int .i64 0]) ∧ Below w.heap.size w w'
  w2 : ∀ w, Calls Try.prog 9 #[.agg #[.int .i64 0, .int .u64 (b : Int), .int .i64 (sc : Int)]] w fun e w' => e = .returned (.tuple #[.string u, .int .i64 0]) ∧ Below w.heap.size w w'
  h : (t.size < u.size ∧ a < b) ∨ (u.size < t.size ∧ b < a) ∨ (t.size = u.size ∧ Op.bytesLess t.toList u.toList = decide (a < b) ∧ (t.toList = u.toList ↔ a = b))
theorem two_any (sc a b : Nat) (hs : sc ≤ 18) (ha : a < 18446744073709551616) (hb : b < 18446744073709551616) : ∃ t u, TwoT sc a b t u := by
  have ia : InR (a : Int) := ⟨by rw [M127_eq]; omega, by rw [M127_eq]; omega⟩
  have ib : InR (b : Int) := ⟨by rw [M127_eq]; omega, by rw [M127_eq]; omega⟩
  obtain ⟨K1, hK1, W1⟩ := dwrite_any (a : Int) sc ia hs
  obtain ⟨K2, hK2, W2⟩ := dwrite_any (b : Int) sc ib hs
  have T1 := txt_any (a : Int) sc K1 ia hs hK1
  have T2 := txt_any (b : Int) sc K2 ib hs hK2
  have l1 := hK1.lo
  have l2 := hK2.lo
  have d1 : dhi (a : Int) = 0 ∧ dlo (a : Int) = a := by unfold dhi dlo; omega
  have d2 : dhi (b : Int) = 0 ∧ dlo (b : Int) = b := by unfold dhi dlo; omega
  unfold dcs at W1 W2
  rw [d1.1, d1.2] at W1
  rw [d2.1, d2.2] at W2
  have na : ¬ (a : Int) < 0 := by omega
  have nb : ¬ (b : Int) < 0 := by omega
  rw [if_neg na, Int.natAbs_natCast] at T1
  rw [if_neg nb, Int.natAbs_natCast] at T2
  rw [Int.natAbs_natCast] at hK1 hK2
  have e1 : wtx (a : Int) sc K1 = wrt sc a K1 := by unfold wtx; rw [if_neg na, Int.natAbs_natCast]
  have e2 : wtx (b : Int) sc K2 = wrt sc b K2 := by unfold wtx; rw [if_neg nb, Int.natAbs_natCast]
  refine ⟨_, _, ⟨W1, W2, ?_⟩⟩
  have z1 := T1.sz
  have z2 := T2.sz
  rcases Nat.lt_trichotomy (K1 - sc) (K2 - sc) with h | h | h
  · left
    exact ⟨by rw [z1, z2]; omega, txt_less T1 T2 h⟩
  · right; right
    have hK : K1 = K2 := by omega
    subst hK
    rw [e1, e2]
    rw [e1] at z1
    rw [e2] at z2
    exact ⟨by rw [z1, z2], tx_less sc a b K1 hK1.done hK2.done⟩
  · right; left
    exact ⟨by rw [z1, z2]; omega, txt_less T2 T1 h⟩
set_option maxHeartbeats 1000000 in
set_option maxRecDepth 100000 in
theorem form_pos (a sc : Nat) (w : World) (hs : sc ≤ 18) : Calls Try.prog 14 #[.agg #[.int .i64 0, .int .u64 (a : Int), .int .i64 (sc : Int)]] w fun e w' => e = .returned (.bool true) ∧ Below w.heap.size w w' := by
  have h1 : (sc : Int) ≤ 18 := by omega
  go_enter Try.func14, Try.ntmps14
  go_wp2_with fail
  go_ret
  exact ⟨rfl, (Below.refl _ _).alloc (Nat.le_refl _) _⟩
set_option maxHeartbeats 4000000 in
set_option maxRecDepth 100000 in
theorem order_yes (a b sc : Nat) (z : Int) (t u : ByteArray) (w : World) (hs : sc ≤ 18) (hz : (IntKind.u64.wrap z).tmod 19 = (sc : Int)) (ha : a < 18446744073709551616) (hb : b < 18446744073709551616) (H : TwoT sc a b t u) :
    Calls Try.prog 6 #[.int .u64 (a : Int), .int .u64 (b : Int), .int .i64 z] w fun e w' => e = .returned (.bool true) ∧ Below w.heap.size w w' := by
  have HT := (show Hid _ from H)
  have ia : InR (a : Int) := ⟨by rw [M127_eq]; omega, by rw [M127_eq]; omega⟩
  have ib : InR (b : Int) := ⟨by rw [M127_eq]; omega, by rw [M127_eq]; omega⟩
  have d1 : dhi (a : Int) = 0 ∧ dlo (a : Int) = a := by unfold dhi dlo; omega
  have d2 : dhi (b : Int) = 0 ∧ dlo (b : Int) = b := by unfold dhi dlo; omega
  have hcmp := fun w => cmp_yes (a : Int) (b : Int) sc sc w ia ib (by omega) (by omega)
  have etv : tv (a : Int) sc (-(b : Int)) sc = (a : Int) - b := by unfold tv; simp; omega
  rw [d1.1, d1.2, d2.1, d2.2, etv] at hcmp
  have HC := (show Hid _ from hcmp)
  have HS : Hid (sc ≤ 18) := hs
  clear H ia ib d1 d2 hcmp etv
  go_enter Try.func6, Try.ntmps6
  go_wp2_with fail
  refine (awake02 _).mono ?_
  rintro e w1 ⟨rfl, b1⟩
  have BB_1 := (show Hid _ from b1)
  clear b1
  go_upto_region 5 with fail
  have ez : (w1.alloc (.cells #[.int .i64 0, .int .u64 (a : Int), .int .i64 (sc : Int)] 24)).heap.size = w1.heap.size + 1 := by simp
  have VA_2 := (show Hid _ from (va_new w1 [.int .i64 0, .int .u64 (a : Int), .int .i64 (sc : Int)] 24).alloc (.cells #[.int .i64 0, .int .u64 (b : Int), .int .i64 (sc : Int)] 24))
  have VB_2 := (show Hid _ from va_new (w1.alloc (.cells #[.int .i64 0, .int .u64 (a : Int), .int .i64 (sc : Int)] 24)) [.int .i64 0, .int .u64 (b : Int), .int .i64 (sc : Int)] 24)
  rw [ez] at VB_2
  have BB_2 := (show Hid _ from (BB_1.out.alloc BB_1.out.size (.cells #[.int .i64 0, .int .u64 (a : Int), .int .i64 (sc : Int)] 24)).alloc (by rw [ez]; have := BB_1.out.size; omega) (.cells #[.int .i64 0, .int .u64 (b : Int), .int .i64 (sc : Int)] 24))
  clear BB_1 ez
  change Code.wp _ _ _ _ ((w1.alloc (.cells #[.int .i64 0, .int .u64 (a : Int), .int .i64 (sc : Int)] 24)).alloc (.cells #[.int .i64 0, .int .u64 (b : Int), .int .i64 (sc : Int)] 24))
  change Hid (VA ((w1.alloc (.cells #[.int .i64 0, .int .u64 (a : Int), .int .i64 (sc : Int)] 24)).alloc (.cells #[.int .i64 0, .int .u64 (b : Int), .int .i64 (sc : Int)] 24)) _ _ _) at VA_2
  change Hid (VA ((w1.alloc (.cells #[.int .i64 0, .int .u64 (a : Int), .int .i64 (sc : Int)] 24)).alloc (.cells #[.int .i64 0, .int .u64 (b : Int), .int .i64 (sc : Int)] 24)) _ _ _) at VB_2
  generalize (w1.alloc (.cells #[.int .i64 0, .int .u64 (a : Int), .int .i64 (sc : Int)] 24)).alloc (.cells #[.int .i64 0, .int .u64 (b : Int), .int .i64 (sc : Int)] 24) = w2 at *
  generalize w1.heap.size = p at *
  go_wp2_with (first | (refine ldA rfl 24 _ rfl p (by rfl) [.int .i64 0, .int .u64 (a : Int), .int .i64 (sc : Int)] _ VA_2.out _ Try.underlying24 rfl infoD ?_) | (refine ldA rfl 24 _ rfl (p + 1) (by rfl) [.int .i64 0, .int .u64 (b : Int), .int .i64 (sc : Int)] _ VB_2.out _ Try.underlying24 rfl infoD ?_))
  refine (HT.out.w1 _).mono ?_
  rintro e w3 ⟨rfl, b3⟩
  have VA_3 := (show Hid _ from VA_2.out.step b3)
  have VB_3 := (show Hid _ from VB_2.out.step b3)
  have BB_3 := (show Hid _ from BB_2.out.trans (b3.mono BB_2.out.size))
  clear b3 VA_2 VB_2 BB_2
  go_wp2_with (first | (refine ldA rfl 24 _ rfl p (by rfl) [.int .i64 0, .int .u64 (a : Int), .int .i64 (sc : Int)] _ VA_3.out _ Try.underlying24 rfl infoD ?_) | (refine ldA rfl 24 _ rfl (p + 1) (by rfl) [.int .i64 0, .int .u64 (b : Int), .int .i64 (sc : Int)] _ VB_3.out _ Try.underlying24 rfl infoD ?_))
  refine (HT.out.w2 _).mono ?_
  rintro e w4 ⟨rfl, b4⟩
  have VA_4 := (show Hid _ from VA_3.out.step b4)
  have VB_4 := (show Hid _ from VB_3.out.step b4)
  have BB_4 := (show Hid _ from BB_3.out.trans (b4.mono BB_3.out.size))
  clear b4 VA_3 VB_3 BB_3
  go_wp2_with (first | (refine ldA rfl 24 _ rfl p (by rfl) [.int .i64 0, .int .u64 (a : Int), .int .i64 (sc : Int)] _ VA_4.out _ Try.underlying24 rfl infoD ?_) | (refine ldA rfl 24 _ rfl (p + 1) (by rfl) [.int .i64 0, .int .u64 (b : Int), .int .i64 (sc : Int)] _ VB_4.out _ Try.underlying24 rfl infoD ?_))
  refine (HC.out _).mono ?_
  rintro e w5 ⟨rfl, b5⟩
  have VA_5 := (show Hid _ from VA_4.out.step b5)
  have VB_5 := (show Hid _ from VB_4.out.step b5)
  have BB_5 := (show Hid _ from BB_4.out.trans (b5.mono BB_4.out.size))
  clear b5 VA_4 VB_4 BB_4
  have hh := HT.out.h
  clear HT HC
  rcases hh with ⟨hl, hab⟩ | ⟨hl, hab⟩ | ⟨hl, hless, heq⟩
  · have hg : sgn ((a : Int) - b) = -1 := by unfold sgn; rw [if_pos (by omega)]
    rw [hg]
    have q1 : ((t.size : Int) != u.size) = true := by simp; omega
    have q2 : (t.size : Int) < u.size := by omega
    go_wp2_with fail
    go_ret
    exact ⟨rfl, BB_5.out⟩
  · have hg : sgn ((a : Int) - b) = 1 := by unfold sgn; rw [if_neg (by omega), if_neg (by omega)]
    rw [hg]
    have q1 : ((t.size : Int) != u.size) = true := by simp; omega
    have q2 : ¬ t.size < u.size := by omega
    go_wp2_with fail
    go_ret
    exact ⟨rfl, BB_5.out⟩
  · have q1 : ((t.size : Int) != u.size) = false := by simp; omega
    rcases Nat.lt_trichotomy a b with hab | hab | hab
    · have hg : sgn ((a : Int) - b) = -1 := by unfold sgn; rw [if_pos (by omega)]
      rw [hg]
      have r1 : Op.bytesLess t.toList u.toList = true := by rw [hless]; simpa using hab
      have r2 : (t.toList == u.toList) = false := by rw [beq_eq_false_iff_ne]; intro e; have := heq.1 e; omega
      clear hless heq hl hg
      have c0 := VA_5.out.cell 0 (v := .int .i64 0) rfl
      have c1 := VA_5.out.cell 1 (v := .int .u64 (a : Int)) rfl
      have c2 := VA_5.out.cell 2 (v := .int .i64 (sc : Int)) rfl
      go_wp2_with fail
      refine (form_pos a sc _ HS.out).mono ?_
      rintro e w6 ⟨rfl, b6⟩
      have BB_6 := (show Hid _ from BB_5.out.trans (b6.mono BB_5.out.size))
      clear b6 BB_5
      go_wp2_with fail
      go_ret
      exact ⟨rfl, BB_6.out⟩
    · have hg : sgn ((a : Int) - b) = 0 := by unfold sgn; rw [if_neg (by omega), if_pos (by omega)]
      rw [hg]
      have r1 : Op.bytesLess t.toList u.toList = false := by rw [hless]; simp; omega
      have r2 : (t.toList == u.toList) = true := by rw [beq_iff_eq]; exact heq.2 hab
      clear hless heq hl hg
      subst hab
      have c0 := VA_5.out.cell 0 (v := .int .i64 0) rfl
      have c1 := VA_5.out.cell 1 (v := .int .u64 (a : Int)) rfl
      have c2 := VA_5.out.cell 2 (v := .int .i64 (sc : Int)) rfl
      go_wp2_with fail
      refine (form_pos a sc _ HS.out).mono ?_
      rintro e w6 ⟨rfl, b6⟩
      have BB_6 := (show Hid _ from BB_5.out.trans (b6.mono BB_5.out.size))
      clear b6 BB_5
      go_wp2_with fail
      go_ret
      exact ⟨rfl, BB_6.out⟩
    · have hg : sgn ((a : Int) - b) = 1 := by unfold sgn; rw [if_neg (by omega), if_neg (by omega)]
      rw [hg]
      have r1 : Op.bytesLess t.toList u.toList = false := by rw [hless]; simp; omega
      have r2 : (t.toList == u.toList) = false := by rw [beq_eq_false_iff_ne]; intro e; have := heq.1 e; omega
      clear hless heq hl hg
      have c0 := VA_5.out.cell 0 (v := .int .i64 0) rfl
      have c1 := VA_5.out.cell 1 (v := .int .u64 (a : Int)) rfl
      have c2 := VA_5.out.cell 2 (v := .int .i64 (sc : Int)) rfl
      go_wp2_with fail
      refine (form_pos a sc _ HS.out).mono ?_
      rintro e w6 ⟨rfl, b6⟩
      have BB_6 := (show Hid _ from BB_5.out.trans (b6.mono BB_5.out.size))
      clear b6 BB_5
      go_wp2_with fail
      go_ret
      exact ⟨rfl, BB_6.out⟩
theorem order_walk (a b z : Int) (w : World) (wa : (Lit.int .u64 a).wf = true) (wb : (Lit.int .u64 b).wf = true) (wz : (Lit.int .i64 z).wf = true) :
    Calls Try.prog 6 #[.int .u64 a, .int .u64 b, .int .i64 z] w fun e w' => e = .returned (.bool true) ∧ Below w.heap.size w w' := by
  have ha : 0 ≤ a ∧ a ≤ 18446744073709551615 := by simpa [Lit.wf, IntKind.min, IntKind.max, IntKind.signed, IntKind.bits] using wa
  have hb : 0 ≤ b ∧ b ≤ 18446744073709551615 := by simpa [Lit.wf, IntKind.min, IntKind.max, IntKind.signed, IntKind.bits] using wb
  obtain ⟨m, rfl⟩ : ∃ m : Nat, a = m := ⟨a.toNat, by omega⟩
  obtain ⟨n, rfl⟩ : ∃ n : Nat, b = n := ⟨b.toNat, by omega⟩
  have h0 : 0 ≤ IntKind.u64.wrap z := by rw [IntKind.wrap_u64]; omega
  have h1 : 0 ≤ (IntKind.u64.wrap z).tmod 19 ∧ (IntKind.u64.wrap z).tmod 19 < 19 := by rw [Int.tmod_eq_emod_of_nonneg h0]; omega
  obtain ⟨sc, hsc⟩ : ∃ sc : Nat, (IntKind.u64.wrap z).tmod 19 = sc := ⟨((IntKind.u64.wrap z).tmod 19).toNat, by omega⟩
  obtain ⟨t, u, H⟩ := two_any sc m n (by omega) (by omega) (by omega)
  exact order_yes m n sc z t u w (by omega) hsc (by omega) (by omega) H
end Go.Proofs.Ytgcmbiahakampaa
