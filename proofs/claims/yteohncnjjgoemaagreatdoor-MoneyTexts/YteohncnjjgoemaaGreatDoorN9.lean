/- money: both readers of amounts side by side. -/
import Derived.Test.YteohncnjjgoemaaGreatDoorXi
import Derived.Test.YteohncnjjgoemaaGreatDoorXh
import Derived.Test.YteohncnjjgoemaaGreatDoorN4
namespace Go.Proofs.YteohncnjjgoemaaGreatDoor
open Go.RowKit
set_option linter.unusedVariables false
set_option linter.unusedSimpArgs false

/-- both answer alike; what is read is written as that text -/
structure MB (s : ByteArray) (c n e : Int) : Prop where
  a : ∀ w, Cu w → Cm w → Mx w → Calls Tryz.prog 8 #[.string s] w fun r w' => r = .returned (.tuple #[.agg (mcl c n).toArray, .int .i64 e]) ∧ Below w.heap.size w w'
  b : ∀ w, Calls Tryz.prog 9 #[.string s] w fun r w' => r = .returned (.tuple #[.agg (mcl c n).toArray, .int .i64 e]) ∧ Below w.heap.size w w'
  c : e = 0 → ∃ i : Nat, i < 4 ∧ c = i ∧ (-10000000000000 ≤ n ∧ n ≤ 10000000000000) ∧ ∀ w, Cu w → Cm w → Calls Tryz.prog 5 #[.agg (mcl c n).toArray] w fun r w' => r = .returned (.tuple #[.string s, .int .i64 0]) ∧ Below w.heap.size w w'
def Mb (s : ByteArray) : Prop := ∃ c n e, MB s c n e
theorem tl_inj {a b : ByteArray} (h : a.toList = b.toList) : a = b := by
  rw [Go.Lib.toList_data, Go.Lib.toList_data] at h
  apply ByteArray.ext
  exact Array.ext' h
theorem nmb_bt {i j : Nat} (hi : i < 4) (hj : j < 3) : dg.bt (nmb i) j ≠ 32 := by
  match i, hi, j, hj with
  | 0, _, 0, _ => decide
  | 0, _, 1, _ => decide
  | 0, _, 2, _ => decide
  | 1, _, 0, _ => decide
  | 1, _, 1, _ => decide
  | 1, _, 2, _ => decide
  | 2, _, 0, _ => decide
  | 2, _, 1, _ => decide
  | 2, _, 2, _ => decide
  | 3, _, 0, _ => decide
  | 3, _, 1, _ => decide
  | 3, _, 2, _ => decide
/-- a text that begins with a name and a blank is cut there -/
theorem cut_at {s : ByteArray} {i : Nat} (hi : i < 4) (h4 : 4 ≤ s.size) (h : s.extract 0 4 = nmb i ++ ⟨#[32]⟩) :
    (⟨(ct s).1.toArray⟩ : ByteArray) = nmb i ∧ (⟨(ct s).2.1.toArray⟩ : ByteArray) = s.extract 4 s.size := by
  have hb : ∀ j, j < 4 → dg.bt s j = dg.bt (nmb i ++ ⟨#[32]⟩) j := fun j hj => by
    rw [← h, dg.bt_ext _ _ _ _ h4, if_pos (by omega), Nat.zero_add]
  have hn := nmb_size hi
  have h3 : dg.bt s 3 = 32 := by
    rw [hb 3 (by decide), dg.bt_app, if_neg (by omega), hn]
    rfl
  have hlt : ∀ j, j < 3 → dg.bt s j ≠ 32 := fun j hj => by
    rw [hb j (by omega), dg.bt_app, if_pos (by omega)]
    exact nmb_bt hi hj
  rcases ct_spec s with ⟨k, hk, hk32, hkn, e1, e2⟩ | ⟨hno, _, _⟩
  · have hk3 : k = 3 := by
      rcases Nat.lt_trichotomy k 3 with hh | hh | hh
      · exact absurd hk32 (hlt k hh)
      · exact hh
      · exact absurd h3 (hkn 3 hh)
    subst hk3
    refine ⟨?_, e2⟩
    rw [e1]
    refine dg.ba_ext (by rw [ByteArray.size_extract, hn]; omega) (fun j hj => ?_)
    rw [ByteArray.size_extract] at hj
    rw [dg.bt_ext _ _ _ _ (by omega), if_pos (by omega), Nat.zero_add, hb j (by omega), dg.bt_app, if_pos (by omega)]
  · exact absurd h3 (hno 3 (by omega))
/-- a text whose front is a name -/
theorem cut_name {s : ByteArray} {i : Nat} (hi : i < 4) (h : (⟨(ct s).1.toArray⟩ : ByteArray) = nmb i) : (4 ≤ s.size ∧ s.extract 0 4 = nmb i ++ ⟨#[32]⟩) ∨ (⟨(ct s).2.1.toArray⟩ : ByteArray) = ⟨#[]⟩ ∧ s.size = 3 := by
  have hn := nmb_size hi
  rcases ct_spec s with ⟨k, hk, hk32, hkn, e1, e2⟩ | ⟨hno, e1, e2⟩
  · left
    rw [e1] at h
    have hk3 : k = 3 := by
      have := congrArg ByteArray.size h
      rw [ByteArray.size_extract, hn] at this
      omega
    subst hk3
    refine ⟨by omega, dg.ba_ext (by rw [ByteArray.size_extract, ByteArray.size_append, hn]; show min 4 s.size - 0 = 3 + 1; omega) (fun j hj => ?_)⟩
    rw [ByteArray.size_extract] at hj
    rw [dg.bt_ext _ _ _ _ (by omega), if_pos (by omega), Nat.zero_add, dg.bt_app, hn]
    by_cases hj3 : j < 3
    · rw [if_pos hj3, ← h, dg.bt_ext _ _ _ _ (by omega), if_pos (by omega), Nat.zero_add]
    · have : j = 3 := by omega
      subst this
      rw [if_neg (by decide), hk32]
      rfl
  · right
    rw [e1] at h
    exact ⟨e2, by rw [h, hn]⟩
end Go.Proofs.YteohncnjjgoemaaGreatDoor
/- money: both readers of amounts answer alike at every text. -/
namespace Go.Proofs.YteohncnjjgoemaaGreatDoor
open Go.RowKit
set_option linter.unusedVariables false
set_option linter.unusedSimpArgs false

theorem parse_empty (w : World) : Calls Tryz.prog 20 #[.string ⟨#[]⟩] w fun r w' => r = .returned (.tuple #[.agg #[.int .i64 0, .int .u64 0, .int .i64 0], .int .i64 0, .int .i64 6]) ∧ Below w.heap.size w w' :=
  dg.p_none (neg := false) (i := 0) ⟨Or.inr ⟨rfl, by decide, rfl⟩⟩ (by decide) (fun h => by obtain ⟨h, _⟩ := h; exact absurd h (by decide)) w
/-- names of texts, as the document's test has them -/
theorem hd_ne {s : ByteArray} {i j : Nat} (hi : i < 4) (hj : j < 4) (h : s.extract 0 4 = nmb i ++ ⟨#[32]⟩) (hij : j ≠ i) : ((s.extract 0 4).toList == (nmb j ++ ⟨#[32]⟩).toList) = false := by
  rw [beq_eq_false_iff_ne]
  intro e
  have e2 := tl_inj e
  rw [h] at e2
  apply nmb_ne hj hi hij
  have hn := nmb_size hi
  have hm := nmb_size hj
  have : nmb i = nmb j := dg.ba_ext (by omega) (fun k hk => by
    have a := dg.bt_app (nmb i) ⟨#[32]⟩ k
    have b := dg.bt_app (nmb j) ⟨#[32]⟩ k
    rw [if_pos hk] at a
    rw [if_pos (by omega)] at b
    rw [← a, ← b, e2])
  rw [this]
set_option maxRecDepth 100000 in
theorem dm_err {s : ByteArray} {i : Nat} (w : World) (hi : i < 4) (hs : s.size ≤ 64) (hs4 : 4 ≤ s.size) (h : s.extract 0 4 = nmb i ++ ⟨#[32]⟩) (x0 x1 x2 at' e0 : Int) (hP : ∀ w, Calls Tryz.prog 22 #[.string (s.extract 4 s.size)] w fun r w' => r = .returned (.tuple #[.agg #[.int .i64 x0, .int .u64 x1, .int .i64 x2], .int .i64 at', .int .i64 e0]) ∧ Below w.heap.size w w') (he : e0 ≠ 0) :
    Calls Tryz.prog 9 #[.string s] w fun e w' => e = .returned (.tuple #[.agg (mcl 0 0).toArray, .int .i64 6]) ∧ Below w.heap.size w w' := by
  have hy : ((s.extract 0 4).toList == (nmb i ++ ⟨#[32]⟩).toList) = true := by rw [beq_iff_eq, h]
  have hn := fun (j : Nat) (hj : j < 4) (hij : j ≠ i) => hd_ne (s := s) hi hj h hij
  match i, hi with
  | 0, _ => exact dm_err_0 s w hs hs4 hy (hn 1 (by decide) (by decide)) (hn 2 (by decide) (by decide)) (hn 3 (by decide) (by decide)) x0 x1 x2 at' e0 hP he
  | 1, _ => exact dm_err_1 s w hs hs4 (hn 0 (by decide) (by decide)) hy (hn 2 (by decide) (by decide)) (hn 3 (by decide) (by decide)) x0 x1 x2 at' e0 hP he
  | 2, _ => exact dm_err_2 s w hs hs4 (hn 0 (by decide) (by decide)) (hn 1 (by decide) (by decide)) hy (hn 3 (by decide) (by decide)) x0 x1 x2 at' e0 hP he
  | 3, _ => exact dm_err_3 s w hs hs4 (hn 0 (by decide) (by decide)) (hn 1 (by decide) (by decide)) (hn 2 (by decide) (by decide)) hy x0 x1 x2 at' e0 hP he
set_option maxRecDepth 100000 in
theorem dm_of {s : ByteArray} {i : Nat} (w : World) (hi : i < 4) (hs : s.size ≤ 64) (hs4 : 4 ≤ s.size) (h : s.extract 0 4 = nmb i ++ ⟨#[32]⟩) (x0 x1 x2 at' : Int) (hP : ∀ w, Calls Tryz.prog 22 #[.string (s.extract 4 s.size)] w fun r w' => r = .returned (.tuple #[.agg #[.int .i64 x0, .int .u64 x1, .int .i64 x2], .int .i64 at', .int .i64 0]) ∧ Below w.heap.size w w')
    (m0 m1 e2 cc : Int) (hO : ∀ w, Calls Tryz.prog 23 #[.agg #[.int .i64 x0, .int .u64 x1, .int .i64 x2], .int .i64 cc, .int .i64 0] w fun r w' => r = .returned (.tuple #[.agg #[.int .i64 m0, .int .i64 m1], .int .i64 e2]) ∧ Below w.heap.size w w') (he : e2 ≠ 0) (hcc : cc = (i : Int)) :
    Calls Tryz.prog 9 #[.string s] w fun e w' => e = .returned (.tuple #[.agg (mcl 0 0).toArray, .int .i64 6]) ∧ Below w.heap.size w w' := by
  have hy : ((s.extract 0 4).toList == (nmb i ++ ⟨#[32]⟩).toList) = true := by rw [beq_iff_eq, h]
  have hn := fun (j : Nat) (hj : j < 4) (hij : j ≠ i) => hd_ne (s := s) hi hj h hij
  match i, hi with
  | 0, _ =>
    obtain rfl : cc = 0 := (by simpa using hcc)
    exact dm_of_0 s w hs hs4 hy (hn 1 (by decide) (by decide)) (hn 2 (by decide) (by decide)) (hn 3 (by decide) (by decide)) x0 x1 x2 at' 0 hP m0 m1 e2 hO rfl he
  | 1, _ =>
    obtain rfl : cc = 1 := (by simpa using hcc)
    exact dm_of_1 s w hs hs4 (hn 0 (by decide) (by decide)) hy (hn 2 (by decide) (by decide)) (hn 3 (by decide) (by decide)) x0 x1 x2 at' 0 hP m0 m1 e2 hO rfl he
  | 2, _ =>
    obtain rfl : cc = 2 := (by simpa using hcc)
    exact dm_of_2 s w hs hs4 (hn 0 (by decide) (by decide)) (hn 1 (by decide) (by decide)) hy (hn 3 (by decide) (by decide)) x0 x1 x2 at' 0 hP m0 m1 e2 hO rfl he
  | 3, _ =>
    obtain rfl : cc = 3 := (by simpa using hcc)
    exact dm_of_3 s w hs hs4 (hn 0 (by decide) (by decide)) (hn 1 (by decide) (by decide)) (hn 2 (by decide) (by decide)) hy x0 x1 x2 at' 0 hP m0 m1 e2 hO rfl he
set_option maxRecDepth 100000 in
theorem dm_ne {s : ByteArray} {i : Nat} (w : World) (hi : i < 4) (hs : s.size ≤ 64) (hs4 : 4 ≤ s.size) (h : s.extract 0 4 = nmb i ++ ⟨#[32]⟩) (x0 x1 x2 at' : Int) (hP : ∀ w, Calls Tryz.prog 22 #[.string (s.extract 4 s.size)] w fun r w' => r = .returned (.tuple #[.agg #[.int .i64 x0, .int .u64 x1, .int .i64 x2], .int .i64 at', .int .i64 0]) ∧ Below w.heap.size w w')
    (m0 m1 cc : Int) (hcc : cc = (i : Int)) (hO : ∀ w, Calls Tryz.prog 23 #[.agg #[.int .i64 x0, .int .u64 x1, .int .i64 x2], .int .i64 cc, .int .i64 0] w fun r w' => r = .returned (.tuple #[.agg #[.int .i64 m0, .int .i64 m1], .int .i64 0]) ∧ Below w.heap.size w w') (t2 : ByteArray) (hW : ∀ w, Calls Tryz.prog 7 #[.agg #[.int .i64 m0, .int .i64 m1]] w fun r w' => r = .returned (.string t2) ∧ Below w.heap.size w w') (q3 : t2 ≠ s) :
    Calls Tryz.prog 9 #[.string s] w fun e w' => e = .returned (.tuple #[.agg (mcl 0 0).toArray, .int .i64 6]) ∧ Below w.heap.size w w' := by
  have hy : ((s.extract 0 4).toList == (nmb i ++ ⟨#[32]⟩).toList) = true := by rw [beq_iff_eq, h]
  have hn := fun (j : Nat) (hj : j < 4) (hij : j ≠ i) => hd_ne (s := s) hi hj h hij
  have hq : (t2.toList == s.toList) = false := by rw [beq_eq_false_iff_ne]; intro e; exact q3 (tl_inj e)
  match i, hi with
  | 0, _ =>
    obtain rfl : cc = 0 := (by simpa using hcc)
    exact dm_ne_0 s w hs hs4 hy (hn 1 (by decide) (by decide)) (hn 2 (by decide) (by decide)) (hn 3 (by decide) (by decide)) x0 x1 x2 at' 0 hP m0 m1 0 hO t2 hW rfl rfl hq
  | 1, _ =>
    obtain rfl : cc = 1 := (by simpa using hcc)
    exact dm_ne_1 s w hs hs4 (hn 0 (by decide) (by decide)) hy (hn 2 (by decide) (by decide)) (hn 3 (by decide) (by decide)) x0 x1 x2 at' 0 hP m0 m1 0 hO t2 hW rfl rfl hq
  | 2, _ =>
    obtain rfl : cc = 2 := (by simpa using hcc)
    exact dm_ne_2 s w hs hs4 (hn 0 (by decide) (by decide)) (hn 1 (by decide) (by decide)) hy (hn 3 (by decide) (by decide)) x0 x1 x2 at' 0 hP m0 m1 0 hO t2 hW rfl rfl hq
  | 3, _ =>
    obtain rfl : cc = 3 := (by simpa using hcc)
    exact dm_ne_3 s w hs hs4 (hn 0 (by decide) (by decide)) (hn 1 (by decide) (by decide)) (hn 2 (by decide) (by decide)) hy x0 x1 x2 at' 0 hP m0 m1 0 hO t2 hW rfl rfl hq
set_option maxRecDepth 100000 in
theorem dm_ok {s : ByteArray} {i : Nat} (w : World) (hi : i < 4) (hs : s.size ≤ 64) (hs4 : 4 ≤ s.size) (h : s.extract 0 4 = nmb i ++ ⟨#[32]⟩) (x0 x1 x2 at' : Int) (hP : ∀ w, Calls Tryz.prog 22 #[.string (s.extract 4 s.size)] w fun r w' => r = .returned (.tuple #[.agg #[.int .i64 x0, .int .u64 x1, .int .i64 x2], .int .i64 at', .int .i64 0]) ∧ Below w.heap.size w w')
    (m0 m1 cc : Int) (hcc : cc = (i : Int)) (hO : ∀ w, Calls Tryz.prog 23 #[.agg #[.int .i64 x0, .int .u64 x1, .int .i64 x2], .int .i64 cc, .int .i64 0] w fun r w' => r = .returned (.tuple #[.agg #[.int .i64 m0, .int .i64 m1], .int .i64 0]) ∧ Below w.heap.size w w') (hW : ∀ w, Calls Tryz.prog 7 #[.agg #[.int .i64 m0, .int .i64 m1]] w fun r w' => r = .returned (.string s) ∧ Below w.heap.size w w') :
    Calls Tryz.prog 9 #[.string s] w fun e w' => e = .returned (.tuple #[.agg (mcl m0 m1).toArray, .int .i64 0]) ∧ Below w.heap.size w w' := by
  have hy : ((s.extract 0 4).toList == (nmb i ++ ⟨#[32]⟩).toList) = true := by rw [beq_iff_eq, h]
  have hn := fun (j : Nat) (hj : j < 4) (hij : j ≠ i) => hd_ne (s := s) hi hj h hij
  match i, hi with
  | 0, _ =>
    obtain rfl : cc = 0 := (by simpa using hcc)
    exact dm_ok_0 s w hs hs4 hy (hn 1 (by decide) (by decide)) (hn 2 (by decide) (by decide)) (hn 3 (by decide) (by decide)) x0 x1 x2 at' 0 hP m0 m1 0 hO s hW rfl rfl (by rw [beq_iff_eq])
  | 1, _ =>
    obtain rfl : cc = 1 := (by simpa using hcc)
    exact dm_ok_1 s w hs hs4 (hn 0 (by decide) (by decide)) hy (hn 2 (by decide) (by decide)) (hn 3 (by decide) (by decide)) x0 x1 x2 at' 0 hP m0 m1 0 hO s hW rfl rfl (by rw [beq_iff_eq])
  | 2, _ =>
    obtain rfl : cc = 2 := (by simpa using hcc)
    exact dm_ok_2 s w hs hs4 (hn 0 (by decide) (by decide)) (hn 1 (by decide) (by decide)) hy (hn 3 (by decide) (by decide)) x0 x1 x2 at' 0 hP m0 m1 0 hO s hW rfl rfl (by rw [beq_iff_eq])
  | 3, _ =>
    obtain rfl : cc = 3 := (by simpa using hcc)
    exact dm_ok_3 s w hs hs4 (hn 0 (by decide) (by decide)) (hn 1 (by decide) (by decide)) (hn 2 (by decide) (by decide)) hy x0 x1 x2 at' 0 hP m0 m1 0 hO s hW rfl rfl (by rw [beq_iff_eq])
/-- a text of one scale is no text of another -/
theorem txt_scale {u : ByteArray} {n1 n2 : Bool} {i1 i2 h1 h2 s1 s2 N1 N2 : Nat} (T : dg.Txt u n1 i1 h1 s1 N1) (U : dg.Txt u n2 i2 h2 s2 N2) : s1 = s2 := by
  have key : ∀ {n : Bool} {i h s N : Nat}, dg.Txt u n i h s N → ∀ p, p < u.size → dg.bt u p = 46 → 0 < s ∧ p = i + h := by
    intro n i h s N T p hp h46
    have hsz := T.sz
    by_cases hpi : p < i
    · rcases T.mi with ⟨_, hi, hb⟩ | ⟨_, hi⟩
      · have : p = 0 := by omega
        subst this
        omega
      · omega
    · by_cases hph : p < i + h
      · have := T.fr (p - i) (by omega)
        rw [show i + (p - i) = p by omega] at this
        have hm := Nat.mod_lt (N / 10 ^ (s + h - 1 - (p - i))) (show 10 > 0 by decide)
        omega
      · have hs : 0 < s := by
          rcases Nat.eq_zero_or_pos s with h0 | h0
          · rw [if_pos h0] at hsz; omega
          · exact h0
        rw [if_neg (by omega)] at hsz
        by_cases hpp : p = i + h
        · exact ⟨hs, hpp⟩
        · have := T.bk (p - (i + h + 1)) (by omega)
          rw [show i + h + 1 + (p - (i + h + 1)) = p by omega] at this
          have hm := Nat.mod_lt (N / 10 ^ (s - 1 - (p - (i + h + 1)))) (show 10 > 0 by decide)
          omega
  have z1 := T.sz
  have z2 := U.sz
  rcases Nat.eq_zero_or_pos s1 with a | a
  · rcases Nat.eq_zero_or_pos s2 with b | b
    · omega
    · rw [if_neg (by omega)] at z2
      have := key T (i2 + h2) (by omega) (U.pt b)
      omega
  · rw [if_neg (by omega)] at z1
    obtain ⟨b, hb⟩ := key U (i1 + h1) (by omega) (T.pt a)
    rw [if_neg (by omega)] at z2
    omega
theorem dof_not (z : Int) (sc i : Nat) (R : Int) (w : World) (iz : InR z) (hs : (sc : Int) ≤ 18) (hi : i < 4) (hR : R = rv z sc (cdg i) 0) (hr : ¬ (-10000000000000 ≤ R ∧ R ≤ 10000000000000)) : Calls Tryz.prog 23 #[.agg #[.int .i64 (dhi z), .int .u64 (dlo z), .int .i64 (sc : Int)], .int .i64 (i : Int), .int .i64 0] w fun r w' => r = .returned (.tuple #[.agg #[.int .i64 0, .int .i64 0], .int .i64 4]) ∧ Below w.heap.size w w' := by
  by_cases h64 : -9223372036854775808 ≤ R ∧ R ≤ 9223372036854775807
  · exact dof_big z sc i 0 R w iz hs hi (by decide) hR hr h64
  · exact dof_far z sc i 0 R w iz hs hi (by decide) hR h64
theorem mb_name {s : ByteArray} {i : Nat} (hi : i < 4) (hs : s.size ≤ 64) (hs4 : 4 ≤ s.size) (h : s.extract 0 4 = nmb i ++ ⟨#[32]⟩) : Mb s := by
  obtain ⟨c1, c2⟩ := cut_at hi hs4 h
  obtain ⟨x0, x1, x2, at', e0, B⟩ := dg.both_any (s.extract 4 s.size)
  have hnm : (nmb i).toList = (⟨(ct s).1.toArray⟩ : ByteArray).toList := by rw [c1]
  have hPa : ∀ w, Calls Tryz.prog 20 #[.string ⟨(ct s).2.1.toArray⟩] w fun r w' => r = .returned (.tuple #[.agg #[.int .i64 x0, .int .u64 x1, .int .i64 x2], .int .i64 at', .int .i64 e0]) ∧ Below w.heap.size w w' := by rw [c2]; exact B.a
  by_cases he : e0 = 0
  · subst he
    obtain ⟨z, sc, K, iz, hsc, rfl, rfl, rfl, hK, htx⟩ := B.d rfl
    have hd := cdg_le i
    have hall : s = nmb i ++ ⟨#[32]⟩ ++ s.extract 4 s.size := by
      have hn := nmb_size hi
      refine dg.ba_ext (by rw [ByteArray.size_append, ByteArray.size_append, ByteArray.size_extract, hn]; show s.size = 3 + 1 + _; omega) (fun k hk => ?_)
      rw [dg.bt_app, ByteArray.size_append, hn, ← h]
      show dg.bt s k = if k < 3 + 1 then _ else dg.bt _ (k - (3 + 1))
      by_cases hk4 : k < 4
      · rw [if_pos hk4, dg.bt_ext _ _ _ _ hs4, if_pos (by omega), Nat.zero_add]
      · rw [if_neg hk4, dg.bt_ext _ _ _ _ (Nat.le_refl _), if_pos (by omega), show 4 + (k - (3 + 1)) = k by omega]
    have h18 : (sc : Int) ≤ 18 := by omega
    obtain ⟨R, hR⟩ : ∃ R, R = rv z sc (cdg i) 0 := ⟨_, rfl⟩
    have T := dg.txt_any z sc K iz hsc hK
    have h41 : (s.extract 4 s.size).size ≤ 41 := by rw [← htx]; exact T.s41
    by_cases hsd : sc = cdg i
    · have hRz : R = z := by rw [hR, ← hsd]; exact rv_same z sc 0
      have hRz' : z = rv z sc (cdg i) 0 := by rw [← hR]; exact hRz.symm
      by_cases hr : -10000000000000 ≤ z ∧ z ≤ 10000000000000
      · refine ⟨i, z, 0, fun w C N X => mp_ok s w C N X hs i hi hnm _ _ _ at' 0 hPa rfl (by rw [hsd]) i z 0 rfl (fun w C => MOf_yes z sc i 0 z w C iz h18 hi (by decide) hRz' iz hr), fun w => dm_ok w hi hs hs4 h _ _ _ at' B.b i z (i : Int) rfl (fun w => dof_yes z sc i 0 z w iz h18 hi (by decide) hRz' hr) (fun w => by rw [congrArg Value.string hall]; exact rwm_ok i z w hi hr _ h41 (fun w => by have := dg.rwrite_ok z sc K w iz hsc hK; rw [htx, hsd] at this; exact this)), fun _ => ⟨i, hi, rfl, hr, fun w C N => ?_⟩⟩
        rw [congrArg Value.string hall]
        exact mwrite_at i K z w C N hi hr _ h41 (fun w => by have := dg.dwrite_at z sc K iz hsc hK w; rw [htx, hsd] at this; exact this)
      · exact ⟨0, 0, 6, fun w C N X => mp_range s w C N X hs i hi hnm _ _ _ at' 0 hPa rfl (by rw [hsd]) 0 0 4 (by decide) (fun w C => MOf_no z sc i 0 z w C iz h18 hi (by decide) hRz' iz hr), fun w => dm_of w hi hs hs4 h _ _ _ at' B.b 0 0 4 (i : Int) (fun w => dof_not z sc i z w iz h18 hi hRz' hr) (by decide) rfl, fun h => by cases h⟩
    · have hne : (sc : Int) ≠ cdg i := by omega
      refine ⟨0, 0, 6, fun w C N X => mp_scale s w C N X hs i hi hnm _ _ _ at' 0 hPa rfl hne, fun w => ?_, fun h => by cases h⟩
      by_cases hr : -10000000000000 ≤ R ∧ R ≤ 10000000000000
      · have iR := minor_in hr
        obtain ⟨K2, hK2⟩ := dg.places_any (cdg i) R.natAbs (by omega) (by unfold dg.B127; omega)
        have T2 := dg.txt_any R (cdg i) K2 iR (by omega) hK2
        refine dm_ne w hi hs hs4 h _ _ _ at' B.b i R (i : Int) rfl (fun w => dof_yes z sc i 0 R w iz h18 hi (by decide) hR hr) _ (fun w => rwm_ok i R w hi hr _ T2.s41 (fun w => dg.rwrite_ok R (cdg i) K2 w iR (by omega) hK2)) (fun e => ?_)
        rw [hall] at e
        have hn := nmb_size hi
        have hcancel : dg.tx (dg.wtx R (cdg i) K2) = s.extract 4 s.size := by
          have hsz := congrArg ByteArray.size e
          rw [ByteArray.size_append, ByteArray.size_append (b := s.extract 4 s.size)] at hsz
          refine dg.ba_ext (by omega) (fun k hk => ?_)
          have a := dg.bt_app (nmb i ++ ⟨#[32]⟩) (dg.tx (dg.wtx R (cdg i) K2)) (4 + k)
          have b := dg.bt_app (nmb i ++ ⟨#[32]⟩) (s.extract 4 s.size) (4 + k)
          have h4' : (nmb i ++ ⟨#[32]⟩ : ByteArray).size = 4 := by rw [ByteArray.size_append, hn]; rfl
          rw [h4', if_neg (by omega), show 4 + k - 4 = k by omega] at a b
          rw [← a, ← b, e]
        rw [hcancel] at T2
        rw [htx] at T
        exact hsd (txt_scale T T2)
      · exact dm_of w hi hs hs4 h _ _ _ at' B.b 0 0 4 (i : Int) (fun w => dof_not z sc i R w iz h18 hi hR hr) (by decide) rfl
  · exact ⟨0, 0, 6, fun w T N X => mp_text s w T N X hs i hi hnm x0 x1 x2 at' e0 hPa he, fun w => dm_err w hi hs hs4 h x0 x1 x2 at' e0 B.b he, fun h => by cases h⟩
end Go.Proofs.YteohncnjjgoemaaGreatDoor
/- money: both readers of amounts at every text; Write out of form. -/
namespace Go.Proofs.YteohncnjjgoemaaGreatDoor
open Go.RowKit
set_option linter.unusedVariables false
set_option linter.unusedSimpArgs false

theorem mb_any (s : ByteArray) : Mb s := by
  by_cases hl : 64 < s.size
  · exact ⟨0, 0, 2, fun w C N X => mp_long s w C N X hl, fun w => dm_long s w hl, fun h => by cases h⟩
  · by_cases hx : ∃ i, i < 4 ∧ 4 ≤ s.size ∧ s.extract 0 4 = nmb i ++ ⟨#[32]⟩
    · obtain ⟨i, hi, h4, h⟩ := hx
      exact mb_name hi (by omega) h4 h
    · have hdoc : ∀ w, Calls Tryz.prog 9 #[.string s] w fun r w' => r = .returned (.tuple #[.agg (mcl 0 0).toArray, .int .i64 6]) ∧ Below w.heap.size w w' := by
        intro w
        by_cases h4 : s.size < 4
        · exact dm_short s w h4
        · have hb : ∀ i, i < 4 → ((s.extract 0 4).toList == (nmb i ++ ⟨#[32]⟩).toList) = false := fun i hi => by
            rw [beq_eq_false_iff_ne]
            intro e
            exact hx ⟨i, hi, by omega, tl_inj e⟩
          exact dm_none s w (by omega) (by omega) (hb 0 (by decide)) (hb 1 (by decide)) (hb 2 (by decide)) (hb 3 (by decide))
      by_cases hy : ∃ i, i < 4 ∧ (⟨(ct s).1.toArray⟩ : ByteArray) = nmb i
      · obtain ⟨i, hi, h⟩ := hy
        rcases cut_name hi h with ⟨h4, hh⟩ | ⟨he, h3⟩
        · exact absurd ⟨i, hi, h4, hh⟩ hx
        · exact ⟨0, 0, 6, fun w C N X => mp_text s w C N X (by omega) i hi (by rw [h]) 0 0 0 0 6 (by rw [he]; exact parse_empty) (by decide), hdoc, fun h => by cases h⟩
      · exact ⟨0, 0, 6, fun w C N X => mp_name s w C N X (by omega) (fun i hi => by
          rw [beq_eq_false_iff_ne]
          intro e
          exact hy ⟨i, hi, (tl_inj e).symm⟩), hdoc, fun h => by cases h⟩
set_option maxHeartbeats 2000000 in
set_option maxRecDepth 100000 in
theorem mwrite_bad (c n : Int) (w : World) (h : mform c n = false) : Calls Tryz.prog 5 #[.agg (mcl c n).toArray] w fun e w' => e = .returned (.tuple #[.string ⟨#[]⟩, .int .i64 3]) ∧ Below w.heap.size w w' := by
  have HT := (show Hid _ from fun w => to_no c n w h)
  have VM_0 := (show Hid _ from va_new w (mcl c n) 23)
  have BB_0 := (show Hid _ from (Below.refl w.heap.size w).alloc (Nat.le_refl _) (.cells (mcl c n).toArray 23))
  clear h
  go_enter Tryz.func5, Tryz.ntmps5
  go_wp2_with (refine ldA rfl 23 _ rfl w.heap.size (by rfl) (mcl c n) _ VM_0.out _ Tryz.underlying23 rfl infoM ?_)
  refine (HT.out _).mono ?_
  rintro e w1 ⟨rfl, b1⟩
  have BB_1 := (show Hid _ from BB_0.out.trans (b1.mono BB_0.out.size))
  clear b1 BB_0 VM_0
  unfold zdl
  go_wp2_with fail
  exact bodyPost_ret (v := .tuple #[.string ⟨#[]⟩, .int .i64 3]) (by simp [results, Tryz.results5, go_sem]) rfl ⟨rfl, BB_1.out.alloc BB_1.out.size _⟩
/-- an amount in form has its text, both ways -/
theorem mw_any (i : Nat) (n : Int) (hi : i < 4) (hn : -10000000000000 ≤ n ∧ n ≤ 10000000000000) : ∃ t : ByteArray, (∀ w, Cu w → Cm w → Calls Tryz.prog 5 #[.agg (mcl i n).toArray] w fun r w' => r = .returned (.tuple #[.string t, .int .i64 0]) ∧ Below w.heap.size w w') ∧ (∀ w, Calls Tryz.prog 7 #[.agg (mcl i n).toArray] w fun r w' => r = .returned (.string t) ∧ Below w.heap.size w w')
    ∧ (∀ w, Cu w → Cm w → Mx w → Calls Tryz.prog 8 #[.string t] w fun r w' => r = .returned (.tuple #[.agg (mcl i n).toArray, .int .i64 0]) ∧ Below w.heap.size w w') := by
  have ic := minor_in hn
  have hd := cdg_le i
  obtain ⟨K, hK⟩ := dg.places_any (cdg i) n.natAbs (by omega) (by unfold dg.B127; omega)
  have T := dg.txt_any n (cdg i) K ic (by omega) hK
  refine ⟨nmb i ++ ⟨#[32]⟩ ++ dg.tx (dg.wtx n (cdg i) K), fun w C N => mwrite_at i K n w C N hi hn _ T.s41 (fun w => dg.dwrite_at n (cdg i) K ic (by omega) hK w), fun w => rwm_ok i n w hi hn _ T.s41 (fun w => dg.rwrite_ok n (cdg i) K w ic (by omega) hK), fun w C N X => ?_⟩
  have hP := T.read
  rw [dg.sg_abs] at hP
  have h41 := T.s41
  generalize dg.tx (dg.wtx n (cdg i) K) = tt at *
  have hnm := nmb_size hi
  have h4' : (nmb i ++ ⟨#[32]⟩ : ByteArray).size = 4 := by rw [ByteArray.size_append, hnm]; rfl
  have hsz : (nmb i ++ ⟨#[32]⟩ ++ tt : ByteArray).size = 4 + tt.size := by rw [ByteArray.size_append, h4']
  have hex : (nmb i ++ ⟨#[32]⟩ ++ tt : ByteArray).extract 0 4 = nmb i ++ ⟨#[32]⟩ := by
    refine dg.ba_ext (by rw [ByteArray.size_extract, hsz, h4']; omega) (fun k hk => ?_)
    rw [ByteArray.size_extract] at hk
    rw [dg.bt_ext _ _ _ _ (by omega), if_pos (by omega), Nat.zero_add, dg.bt_app, if_pos (by omega)]
  have hex2 : (nmb i ++ ⟨#[32]⟩ ++ tt : ByteArray).extract 4 (nmb i ++ ⟨#[32]⟩ ++ tt : ByteArray).size = tt := by
    refine dg.ba_ext (by rw [ByteArray.size_extract, hsz]; omega) (fun k hk => ?_)
    rw [ByteArray.size_extract, hsz] at hk
    rw [dg.bt_ext _ _ _ _ (Nat.le_refl _), if_pos (by omega), dg.bt_app, h4', if_neg (by omega), show 4 + k - 4 = k by omega]
  obtain ⟨c1, c2⟩ := cut_at hi (by omega) hex
  rw [hex2] at c2
  exact mp_ok _ w C N X (by omega) i hi (by rw [c1]) _ _ _ 0 0 (by rw [c2]; exact hP) rfl rfl i n 0 rfl (fun w C => MOf_yes n (cdg i) i 0 n w C ic (by omega) hi (by decide) (rv_same n (cdg i) 0).symm ic hn)
end Go.Proofs.YteohncnjjgoemaaGreatDoor
