/- texts of the model: Gb Gc Gd Ge Gf Ek El Mev -/
import Derived.Test.YtjkiplndbcmmbaaGreatDoorW04
import Derived.Test.YtjkiplndbcmmbaaGreatDoorW06
import Derived.Test.YtjkiplndbcmmbaaGreatDoorW19
import Derived.Test.YtjkiplndbcmmbaaGreatDoorW03
import Derived.Below
import Derived.BigQuiet
import Derived.Deep.DeepCutAuto
import Derived.Deep.MidRow
import Derived.Deep.RegionHeld3
import Derived.Deep.RegionLaw
import Derived.Handy
import Derived.Laws.AppendOwn
import Derived.Laws.AppendOwnNone
import Derived.Laws.Rows
import Derived.Laws.Tables
import Derived.LoopTactic
import Derived.OwnWalk
import Derived.Laws.StructEq
import Derived.DeepKeys
set_option linter.unusedVariables false
set_option linter.unusedSimpArgs false
set_option maxHeartbeats 16000000
set_option maxRecDepth 100000
namespace Go.Proofs.YtjkiplndbcmmbaaGreatDoor
open Tryz
open Go.RowKit
theorem aF (n l g : Int) (w : World) : Calls prog 194 #[.int .i64 n, .int .i64 l, .int .i64 g] w fun e w' => e = .returned (.bool (wi n l g)) ∧ w' = w := by
 unfold wi
 by_cases h1 : l ≤ n
 ·by_cases h2 : n ≤ g
  ·rw [show decide (l ≤ n ∧ n ≤ g) = true by simp; omega]
   go_enter func194, ntmps194
   go_wp2_with fail
   go_ret
   exact ⟨rfl, rfl⟩
  ·rw [show decide (l ≤ n ∧ n ≤ g) = false by simp; omega]
   go_enter func194, ntmps194
   go_wp2_with fail
   go_ret
   exact ⟨rfl, rfl⟩
 ·rw [show decide (l ≤ n ∧ n ≤ g) = false by simp; omega]
  go_enter func194, ntmps194
  go_wp2_with fail
  go_ret
  exact ⟨rfl, rfl⟩
theorem ck (n : Int) (w : World) : Calls prog 174 #[.int .i64 n] w fun e w' => e = .returned (.bool (wi n 1 3652059)) ∧ w' = w := by
 go_enter func174, ntmps174
 go_wp2_with fail
 refine (aF n 1 3652059 _).mono ?_
 rintro e w' ⟨rfl, rfl⟩
 go_wp2_with fail
 go_ret
 exact ⟨rfl, rfl⟩
theorem kI (n : Int) (w : World) : Calls prog 130 #[.int .i64 n] w fun e w' => e = .returned (.bool (wi n 0 3)) ∧ w' = w := by
 unfold wi
 by_cases h1 : 0 ≤ n
 ·by_cases h2 : n < 4
  ·rw [show decide (0 ≤ n ∧ n ≤ 3) = true by simp; omega]
   go_enter func130, ntmps130
   go_wp2_with fail
   go_ret
   exact ⟨rfl, rfl⟩
  ·rw [show decide (0 ≤ n ∧ n ≤ 3) = false by simp; omega]
   go_enter func130, ntmps130
   go_wp2_with fail
   go_ret
   exact ⟨rfl, rfl⟩
 ·rw [show decide (0 ≤ n ∧ n ≤ 3) = false by simp; omega]
  go_enter func130, ntmps130
  go_wp2_with fail
  go_ret
  exact ⟨rfl, rfl⟩
theorem mj (w : World) : Calls prog 184 #[.int .i64 0] w fun e w' => e = .returned (.bool true) ∧ w' = w := by
 go_enter func184, ntmps184
 go_wp2_with fail
 go_ret
 exact ⟨rfl, rfl⟩
theorem bw (n : Int) (w : World) : Calls prog 152 #[.agg #[.int .i64 n, .int .i64 0]] w fun e w' => e = .returned (.int .i64 (if wi n 0 3 = true then 0 else 3)) ∧ Below w.heap.size w w' := by
 have D := (Below.refl w.heap.size w).alloc (Nat.le_refl _) (.cells #[.int .i64 n, .int .i64 0] 195)
 have HD := hI_ D
 clear D
 cases hc : wi n 0 3
 ·go_enter func152, ntmps152
  go_wp2_with (go_at_call 130; refine (kI n _).mono ?_; rintro e w1 ⟨rfl, rfl⟩; rw [hc])
  go_ret
  exact ⟨rfl, HD.out⟩
 ·go_enter func152, ntmps152
  go_wp2_with (first | (go_at_call 130; refine (kI n _).mono ?_; rintro e w1 ⟨rfl, rfl⟩; rw [hc]) | (go_at_call 184; refine (mj _).mono ?_; rintro e w1 ⟨rfl, rfl⟩))
  go_ret
  exact ⟨rfl, HD.out⟩
structure PV where
 id : Int
 kind : Int
 cur : Int
 day : Int
 basis : Int
 mode : Int
 fee : Int
 lim : Int
 ts : List (Int × Int)
def PV.cells (x : PV) (tv : Value) : List Value := [.int .i64 x.id, .int .i64 x.kind, .int .i64 x.cur, .int .i64 x.day, .int .i64 x.basis, .int .i64 x.mode, .int .i64 x.fee, .int .i64 x.lim, tv]
theorem PV.len (x : PV) (tv : Value) : (x.cells tv).length = 9 := rfl
structure PV.wf (x : PV) : Prop where
 id : I64 x.id
 kind : I64 x.kind
 cur : I64 x.cur
 day : I64 x.day
 basis : I64 x.basis
 mode : I64 x.mode
 fee : I64 x.fee
 lim : I64 x.lim
def PV.inr (x : PV) : Bool := wi x.id 1 1000000000 && wi x.kind 1 2 && wi x.cur 0 3 && wi x.day 1 3652059 && wi x.basis 0 3 && wi x.mode 0 6 && wi x.fee 0 10000000000000 && wi x.lim 0 10000000000000
theorem ig (x : PV) (tv : Value) (w : World) : Calls prog 171 #[.agg (x.cells tv).toArray] w fun e w' => e = .returned (.bool x.inr) ∧ Below w.heap.size w w' := by
 have V := aa w (x.cells tv) 162
 have HV := hI_ V
 have HD := hI_ ((Below.refl w.heap.size w).alloc (Nat.le_refl _) (.cells (x.cells tv).toArray 162))
 have p0 := V.cell 0 (v := .int .i64 x.id) rfl
 have p1 := V.cell 1 (v := .int .i64 x.kind) rfl
 have p2 := V.cell 2 (v := .int .i64 x.cur) rfl
 clear V
 cases g0 : wi x.id 1 1000000000
 ·rw [show x.inr = false by simp [PV.inr, g0]]
  go_enter func171, ntmps171
  go_wp2_with fail
  refine (aB _ _ _ _).mono ?_
  rintro e w2 ⟨rfl, rfl⟩
  rw [g0]
  go_wp2_with fail
  go_ret
  exact ⟨rfl, HD.out⟩
 cases g1 : wi x.kind 1 2
 ·rw [show x.inr = false by simp [PV.inr, g0, g1]]
  go_enter func171, ntmps171
  go_wp2_with fail
  refine (aB _ _ _ _).mono ?_
  rintro e w2 ⟨rfl, rfl⟩
  rw [g0]
  go_wp2_with fail
  refine (aF _ _ _ _).mono ?_
  rintro e w2 ⟨rfl, rfl⟩
  rw [g1]
  go_wp2_with fail
  go_ret
  exact ⟨rfl, HD.out⟩
 cases g2 : wi x.cur 0 3
 ·rw [show x.inr = false by simp [PV.inr, g0, g1, g2]]
  go_enter func171, ntmps171
  go_wp2_with fail
  refine (aB _ _ _ _).mono ?_
  rintro e w2 ⟨rfl, rfl⟩
  rw [g0]
  go_wp2_with fail
  refine (aF _ _ _ _).mono ?_
  rintro e w2 ⟨rfl, rfl⟩
  rw [g1]
  go_wp2_with fail
  refine (bw _ _).mono ?_
  rintro e w1 ⟨rfl, b1⟩
  rw [g2]
  have D1 := hI_ (HD.out.trans (b1.mono HD.out.size))
  go_wp2_with fail
  go_ret
  exact ⟨rfl, D1.out⟩
 cases g3 : wi x.day 1 3652059
 ·rw [show x.inr = false by simp [PV.inr, g0, g1, g2, g3]]
  go_enter func171, ntmps171
  go_wp2_with fail
  refine (aB _ _ _ _).mono ?_
  rintro e w2 ⟨rfl, rfl⟩
  rw [g0]
  go_wp2_with fail
  refine (aF _ _ _ _).mono ?_
  rintro e w2 ⟨rfl, rfl⟩
  rw [g1]
  go_wp2_with fail
  refine (bw _ _).mono ?_
  rintro e w1 ⟨rfl, b1⟩
  rw [g2]
  have V1 := HV.out.step b1
  have D1 := hI_ (HD.out.trans (b1.mono HD.out.size))
  have q3 := V1.cell 3 (v := .int .i64 x.day) rfl
  have q4 := V1.cell 4 (v := .int .i64 x.basis) rfl
  have q5 := V1.cell 5 (v := .int .i64 x.mode) rfl
  have q6 := V1.cell 6 (v := .int .i64 x.fee) rfl
  have q7 := V1.cell 7 (v := .int .i64 x.lim) rfl
  clear V1 b1
  go_wp2_with fail
  refine (ck _ _).mono ?_
  rintro e w2 ⟨rfl, rfl⟩
  rw [g3]
  go_wp2_with fail
  go_ret
  exact ⟨rfl, D1.out⟩
 cases g4 : wi x.basis 0 3
 ·rw [show x.inr = false by simp [PV.inr, g0, g1, g2, g3, g4]]
  go_enter func171, ntmps171
  go_wp2_with fail
  refine (aB _ _ _ _).mono ?_
  rintro e w2 ⟨rfl, rfl⟩
  rw [g0]
  go_wp2_with fail
  refine (aF _ _ _ _).mono ?_
  rintro e w2 ⟨rfl, rfl⟩
  rw [g1]
  go_wp2_with fail
  refine (bw _ _).mono ?_
  rintro e w1 ⟨rfl, b1⟩
  rw [g2]
  have V1 := HV.out.step b1
  have D1 := hI_ (HD.out.trans (b1.mono HD.out.size))
  have q3 := V1.cell 3 (v := .int .i64 x.day) rfl
  have q4 := V1.cell 4 (v := .int .i64 x.basis) rfl
  have q5 := V1.cell 5 (v := .int .i64 x.mode) rfl
  have q6 := V1.cell 6 (v := .int .i64 x.fee) rfl
  have q7 := V1.cell 7 (v := .int .i64 x.lim) rfl
  clear V1 b1
  go_wp2_with fail
  refine (ck _ _).mono ?_
  rintro e w2 ⟨rfl, rfl⟩
  rw [g3]
  go_wp2_with fail
  refine (aF _ _ _ _).mono ?_
  rintro e w2 ⟨rfl, rfl⟩
  rw [g4]
  go_wp2_with fail
  go_ret
  exact ⟨rfl, D1.out⟩
 cases g5 : wi x.mode 0 6
 ·rw [show x.inr = false by simp [PV.inr, g0, g1, g2, g3, g4, g5]]
  go_enter func171, ntmps171
  go_wp2_with fail
  refine (aB _ _ _ _).mono ?_
  rintro e w2 ⟨rfl, rfl⟩
  rw [g0]
  go_wp2_with fail
  refine (aF _ _ _ _).mono ?_
  rintro e w2 ⟨rfl, rfl⟩
  rw [g1]
  go_wp2_with fail
  refine (bw _ _).mono ?_
  rintro e w1 ⟨rfl, b1⟩
  rw [g2]
  have V1 := HV.out.step b1
  have D1 := hI_ (HD.out.trans (b1.mono HD.out.size))
  have q3 := V1.cell 3 (v := .int .i64 x.day) rfl
  have q4 := V1.cell 4 (v := .int .i64 x.basis) rfl
  have q5 := V1.cell 5 (v := .int .i64 x.mode) rfl
  have q6 := V1.cell 6 (v := .int .i64 x.fee) rfl
  have q7 := V1.cell 7 (v := .int .i64 x.lim) rfl
  clear V1 b1
  go_wp2_with fail
  refine (ck _ _).mono ?_
  rintro e w2 ⟨rfl, rfl⟩
  rw [g3]
  go_wp2_with fail
  refine (aF _ _ _ _).mono ?_
  rintro e w2 ⟨rfl, rfl⟩
  rw [g4]
  go_wp2_with fail
  refine (aF _ _ _ _).mono ?_
  rintro e w2 ⟨rfl, rfl⟩
  rw [g5]
  go_wp2_with fail
  go_ret
  exact ⟨rfl, D1.out⟩
 cases g6 : wi x.fee 0 10000000000000
 ·rw [show x.inr = false by simp [PV.inr, g0, g1, g2, g3, g4, g5, g6]]
  go_enter func171, ntmps171
  go_wp2_with fail
  refine (aB _ _ _ _).mono ?_
  rintro e w2 ⟨rfl, rfl⟩
  rw [g0]
  go_wp2_with fail
  refine (aF _ _ _ _).mono ?_
  rintro e w2 ⟨rfl, rfl⟩
  rw [g1]
  go_wp2_with fail
  refine (bw _ _).mono ?_
  rintro e w1 ⟨rfl, b1⟩
  rw [g2]
  have V1 := HV.out.step b1
  have D1 := hI_ (HD.out.trans (b1.mono HD.out.size))
  have q3 := V1.cell 3 (v := .int .i64 x.day) rfl
  have q4 := V1.cell 4 (v := .int .i64 x.basis) rfl
  have q5 := V1.cell 5 (v := .int .i64 x.mode) rfl
  have q6 := V1.cell 6 (v := .int .i64 x.fee) rfl
  have q7 := V1.cell 7 (v := .int .i64 x.lim) rfl
  clear V1 b1
  go_wp2_with fail
  refine (ck _ _).mono ?_
  rintro e w2 ⟨rfl, rfl⟩
  rw [g3]
  go_wp2_with fail
  refine (aF _ _ _ _).mono ?_
  rintro e w2 ⟨rfl, rfl⟩
  rw [g4]
  go_wp2_with fail
  refine (aF _ _ _ _).mono ?_
  rintro e w2 ⟨rfl, rfl⟩
  rw [g5]
  go_wp2_with fail
  refine (aB _ _ _ _).mono ?_
  rintro e w2 ⟨rfl, rfl⟩
  rw [g6]
  go_wp2_with fail
  go_ret
  exact ⟨rfl, D1.out⟩
 cases g7 : wi x.lim 0 10000000000000
 ·rw [show x.inr = false by simp [PV.inr, g0, g1, g2, g3, g4, g5, g6, g7]]
  go_enter func171, ntmps171
  go_wp2_with fail
  refine (aB _ _ _ _).mono ?_
  rintro e w2 ⟨rfl, rfl⟩
  rw [g0]
  go_wp2_with fail
  refine (aF _ _ _ _).mono ?_
  rintro e w2 ⟨rfl, rfl⟩
  rw [g1]
  go_wp2_with fail
  refine (bw _ _).mono ?_
  rintro e w1 ⟨rfl, b1⟩
  rw [g2]
  have V1 := HV.out.step b1
  have D1 := hI_ (HD.out.trans (b1.mono HD.out.size))
  have q3 := V1.cell 3 (v := .int .i64 x.day) rfl
  have q4 := V1.cell 4 (v := .int .i64 x.basis) rfl
  have q5 := V1.cell 5 (v := .int .i64 x.mode) rfl
  have q6 := V1.cell 6 (v := .int .i64 x.fee) rfl
  have q7 := V1.cell 7 (v := .int .i64 x.lim) rfl
  clear V1 b1
  go_wp2_with fail
  refine (ck _ _).mono ?_
  rintro e w2 ⟨rfl, rfl⟩
  rw [g3]
  go_wp2_with fail
  refine (aF _ _ _ _).mono ?_
  rintro e w2 ⟨rfl, rfl⟩
  rw [g4]
  go_wp2_with fail
  refine (aF _ _ _ _).mono ?_
  rintro e w2 ⟨rfl, rfl⟩
  rw [g5]
  go_wp2_with fail
  refine (aB _ _ _ _).mono ?_
  rintro e w2 ⟨rfl, rfl⟩
  rw [g6]
  go_wp2_with fail
  refine (aB _ _ _ _).mono ?_
  rintro e w2 ⟨rfl, rfl⟩
  rw [g7]
  go_wp2_with fail
  go_ret
  exact ⟨rfl, D1.out⟩
 rw [show x.inr = true by simp [PV.inr, g0, g1, g2, g3, g4, g5, g6, g7]]
 go_enter func171, ntmps171
 go_wp2_with fail
 refine (aB _ _ _ _).mono ?_
 rintro e w2 ⟨rfl, rfl⟩
 rw [g0]
 go_wp2_with fail
 refine (aF _ _ _ _).mono ?_
 rintro e w2 ⟨rfl, rfl⟩
 rw [g1]
 go_wp2_with fail
 refine (bw _ _).mono ?_
 rintro e w1 ⟨rfl, b1⟩
 rw [g2]
 have V1 := HV.out.step b1
 have D1 := hI_ (HD.out.trans (b1.mono HD.out.size))
 have q3 := V1.cell 3 (v := .int .i64 x.day) rfl
 have q4 := V1.cell 4 (v := .int .i64 x.basis) rfl
 have q5 := V1.cell 5 (v := .int .i64 x.mode) rfl
 have q6 := V1.cell 6 (v := .int .i64 x.fee) rfl
 have q7 := V1.cell 7 (v := .int .i64 x.lim) rfl
 clear V1 b1
 go_wp2_with fail
 refine (ck _ _).mono ?_
 rintro e w2 ⟨rfl, rfl⟩
 rw [g3]
 go_wp2_with fail
 refine (aF _ _ _ _).mono ?_
 rintro e w2 ⟨rfl, rfl⟩
 rw [g4]
 go_wp2_with fail
 refine (aF _ _ _ _).mono ?_
 rintro e w2 ⟨rfl, rfl⟩
 rw [g5]
 go_wp2_with fail
 refine (aB _ _ _ _).mono ?_
 rintro e w2 ⟨rfl, rfl⟩
 rw [g6]
 go_wp2_with fail
 refine (aB _ _ _ _).mono ?_
 rintro e w2 ⟨rfl, rfl⟩
 rw [g7]
 go_wp2_with fail
 go_ret
 exact ⟨rfl, D1.out⟩
theorem ld (tv : Value) (ts : List (Int × Int)) (w : World) (h : Tr w tv ts) :
  Calls prog 172 #[tv] w fun e w' => e = .returned (.int .i64 (terr ts)) ∧ Below w.heap.size w w' := by
 obtain ⟨n, hn⟩ : ∃ n, n = ts.length := ⟨_, rfl⟩
 have H := hI_ h
 obtain ⟨ta, tc, rfl, g1, g2⟩ : ∃ a c, tv = .slice a n c ∧ n ≤ c ∧ c ≤ 9223372036854775807 := by obtain ⟨_, a, c, e, h1, h2, _⟩ := h; exact ⟨a, c, by rw [hn]; exact e, by rw [hn]; exact h1, h2⟩
 have HN := hI_ hn
 clear h hn
 by_cases h8 : 8 < n
 ·rw [oZ (by have := HN.out; omega)]
  go_enter func172, ntmps172
  go_wp2_with fail
  go_ret
  exact ⟨rfl, Below.refl _ _⟩
 by_cases h0 : n = 0
 ·rw [p4 (by have := HN.out; omega)]
  subst h0
  go_enter func172, ntmps172
  go_wp2_with fail
  go_ret
  exact ⟨rfl, Below.refl _ _⟩
 have h0' : ¬ ((n : Int) = 0) := by omega
 have hp : 0 < n := by omega
 obtain ⟨b, off, rfl, y1, y2⟩ := H.out.cells 0 hp
 rw [Nat.zero_mul, Nat.add_zero] at y1 y2
 by_cases hf : tf ts 0 = 0
 ·rw [hf] at y1
  clear y2
  have HF := hI_ hf
  clear hf
  have e1 : ((n : Int) == 0) = false := by simpa using h0'
  go_enter func172, ntmps172
  go_wp2_with fail
  go_loopw [20] (fun i wr => ∃ k : Nat, k ≤ n ∧ i = .int .i64 k ∧ Hid (∀ i, i < k → gdb ts i = true) ∧ Below w.heap.size w wr) (fun i _ => n - (intOf i).toNat)
  case atStart => exact ⟨0, by omega, rfl, (fun i hi => by omega), Below.refl _ _⟩
  case round =>
   obtain ⟨k, hk, rfl, HG, hbel⟩ := hrel
   have HB := hI_ hbel
   clear hbel y1
   by_cases hkn : k = n
   ·subst hkn
    go_wp2_with fail
    go_ret
    exact ⟨by rw [ux (by have := HN.out; omega) (by have := HN.out; omega) (fun i hi => HG.out i (by have := HN.out; omega))]; rfl, HB.out⟩
   have hk' : k < n := by omega
   obtain ⟨b', off', e, z1, z2⟩ := (H.out.step HB.out).cells k hk'
   cases e
   have d1 : (0 : Int) ≤ (k : Int) := by omega
   have d2 : (k : Int) < (n : Int) := by omega
   have hgd : gdb ts k = decide ((k = 0 → tf ts k = 0) ∧ (0 < k → tf ts (k - 1) < tf ts k) ∧ tf ts k ≤ 10000000000000 ∧ 0 ≤ tr ts k ∧ tr ts k ≤ 1000000000) := rfl
   have HGD := hI_ hgd
   clear hgd
   have bad : Hid (gdb ts k = false → terr ts = 3) := fun hb => l9 (by have := HN.out; omega) (by have := HN.out; omega) hb
   have R0 : tf ts k ≤ 10000000000000 → wi (tr ts k) 0 1000000000 = true → (k = 0 → tf ts k = 0) → (0 < k → tf ts (k - 1) < tf ts k) → gdb ts k = true := by
    intro u1 u2 u3 u4
    rw [HGD.out]
    simp only [wi, decide_eq_true_eq] at u2 ⊢
    exact ⟨u3, u4, u1, u2.1, u2.2⟩
   have N1 : ¬ tf ts k ≤ 10000000000000 → gdb ts k = false := by
    intro u
    rw [HGD.out]
    simp only [decide_eq_false_iff_not]
    exact fun v => u v.2.2.1
   have N2 : wi (tr ts k) 0 1000000000 = false → gdb ts k = false := by
    intro u
    rw [HGD.out]
    simp only [wi, decide_eq_false_iff_not] at u ⊢
    exact fun v => u ⟨v.2.2.2.1, v.2.2.2.2⟩
   have N3 : 0 < k → ¬ tf ts (k - 1) < tf ts k → gdb ts k = false := by
    intro u0 u
    rw [HGD.out]
    simp only [decide_eq_false_iff_not]
    exact fun v => u (v.2.1 u0)
   have HR0 := hI_ R0
   have HN1 := hI_ N1
   have HN2 := hI_ N2
   have HN3 := hI_ N3
   clear R0 N1 N2 N3 HGD
   by_cases hk0 : k = 0
   ·subst hk0
    rw [HF.out, Nat.zero_mul, Nat.add_zero] at z1
    rw [Nat.zero_mul, Nat.add_zero] at z2
    generalize tr ts 0 = r at *
    go_wp2_with fail
    go_quiet (fail)
    go_wp2_with fail
    refine (aB _ _ _ _).mono ?_
    rintro e w2 ⟨rfl, rfl⟩
    cases hr : wi r 0 1000000000
    ·go_wp2_with fail
     go_ret
     exact ⟨by rw [bad.out (HN2.out hr)]; rfl, (aM (HB.out.alloc HB.out.size _) _)⟩
    ·go_wp2_with fail
     have G1 : ∀ i, i < 0 + 1 → gdb ts i = true := by
      intro i hi
      obtain rfl : i = 0 := by omega
      exact HR0.out (by rw [HF.out]; omega) hr (fun _ => HF.out) (fun h => by omega)
     exact ⟨⟨0 + 1, by omega, by go_num, G1, aM (HB.out.alloc HB.out.size _) _⟩, by simp [intOf]; omega⟩
   ·obtain ⟨m, rfl⟩ : ∃ m, k = m + 1 := ⟨k - 1, by omega⟩
    obtain ⟨b', off', e, x1, x2⟩ := (H.out.step HB.out).cells m (by omega)
    cases e
    rw [Nat.add_sub_cancel] at HR0 HN3
    generalize tf ts m = f0 at *
    generalize tf ts (m + 1) = f1 at *
    generalize tr ts (m + 1) = r at *
    have d3 : (0 : Int) < ((m + 1 : Nat) : Int) := by omega
    have d4 : ((m + 1 : Nat) : Int) - 1 = (m : Int) := by omega
    have d5 : (0 : Int) ≤ (m : Int) := by omega
    have d6 : (m : Int) < (n : Int) := by omega
    have d7 : IntKind.i64.wrap (m : Int) = (m : Int) := by rw [IntKind.wrap_i64]; omega
    have x3 : ∀ o : Obj, (wr.alloc o).cell? ⟨b, off + m * 2, none⟩ = some (.int .i64 f0) := fun o => (((Below.refl wr.heap.size wr).alloc (Nat.le_refl _) o).cell (p := ⟨b, off + m * 2, none⟩) (World.block_lt_of_cell? wr _ x1)).trans x1
    by_cases hf : f0 < f1
    ·go_wp2_with fail
     go_quiet (fail)
     by_cases hM : f1 ≤ 10000000000000
     ·go_wp2_with fail
      refine (aB _ _ _ _).mono ?_
      rintro e w2 ⟨rfl, rfl⟩
      cases hr : wi r 0 1000000000
      ·go_wp2_with fail
       go_ret
       exact ⟨by rw [bad.out (HN2.out hr)]; rfl, (aM (HB.out.alloc HB.out.size _) _)⟩
      ·go_wp2_with fail
       have G1 : ∀ i, i < m + 1 + 1 → gdb ts i = true := by
        intro i hi
        by_cases e : i = m + 1
        ·subst e
         exact HR0.out hM hr (fun h => by omega) (fun _ => hf)
        ·exact HG.out i (by omega)
       exact ⟨⟨m + 1 + 1, by omega, by go_num, G1, aM (HB.out.alloc HB.out.size _) _⟩, by simp [intOf]; omega⟩
     ·go_wp2_with fail
      go_ret
      exact ⟨by rw [bad.out (HN1.out hM)]; rfl, (aM (HB.out.alloc HB.out.size _) _)⟩
    ·go_wp2_with fail
     go_quiet (fail)
     go_wp2_with fail
     go_ret
     exact ⟨by rw [bad.out (HN3.out (by omega) hf)]; rfl, (aM (HB.out.alloc HB.out.size _) _)⟩
 ·rw [l9 (i := 0) (by have := HN.out; omega) (by have := HN.out; omega) (by simp [gdb, hf])]
  generalize tf ts 0 = f at *
  have e1 : ((n : Int) == 0) = false := by simpa using h0'
  have e2 : (f != 0) = true := by simpa using hf
  go_enter func172, ntmps172
  go_wp2_with fail
  go_ret
  exact ⟨rfl, Below.refl _ _⟩
def chk (x : PV) : Int := if x.inr = true then terr x.ts else 1
theorem infoP : (prog.info? 162).map (·.size) = some 9 := by kernel_rfl
theorem cN (x : PV) (tv : Value) (w : World) (h : Tr w tv x.ts) :
  Calls prog 135 #[.agg (x.cells tv).toArray] w fun e w' => e = .returned (.int .i64 (chk x)) ∧ Below w.heap.size w w' := by
 have HV := hI_ (aa w (x.cells tv) 162)
 have HD := hI_ ((Below.refl w.heap.size w).alloc (Nat.le_refl _) (.cells (x.cells tv).toArray 162))
 have HT := hI_ (h.step HD.out)
 clear h
 cases hx : x.inr
 ·rw [show chk x = 1 by simp [chk, hx]]
  go_enter func135, ntmps135
  go_wp2_with (refine ldA rfl 162 _ rfl w.heap.size (by rfl) _ _ HV.out _ underlying162 rfl infoP ?_)
  refine (ig x tv _).mono ?_
  rintro e w1 ⟨rfl, b1⟩
  rw [hx]
  go_wp2_with fail
  go_ret
  exact ⟨rfl, HD.out.trans (b1.mono HD.out.size)⟩
 ·rw [show chk x = terr x.ts by simp [chk, hx]]
  go_enter func135, ntmps135
  go_wp2_with (refine ldA rfl 162 _ rfl w.heap.size (by rfl) _ _ HV.out _ underlying162 rfl infoP ?_)
  refine (ig x tv _).mono ?_
  rintro e w1 ⟨rfl, b1⟩
  rw [hx]
  have D1 := hI_ (HD.out.trans (b1.mono HD.out.size))
  have p8 := (HV.out.step b1).cell 8 (v := tv) rfl
  have T1 := hI_ (HT.out.step b1)
  obtain ⟨ta, tn, tc, rfl⟩ : ∃ a n c, tv = .slice a n c := by obtain ⟨_, a, c, e, _⟩ := HT.out; exact ⟨a, _, c, e⟩
  clear b1
  go_wp2_with fail
  refine (ld _ x.ts _ T1.out).mono ?_
  rintro e w2 ⟨rfl, b2⟩
  go_wp2_with fail
  go_ret
  exact ⟨rfl, D1.out.trans (b2.mono D1.out.size)⟩
end Go.Proofs.YtjkiplndbcmmbaaGreatDoor
namespace Go.Proofs.YtjkiplndbcmmbaaGreatDoor
open Go.RowKit
theorem bD (x : PV) {tv : Value} (h : ∃ a n c, tv = .slice a n c) : ∀ v ∈ x.cells tv, v.oneCell' = true := by
 obtain ⟨a, n, c, rfl⟩ := h
 intro v hv
 simp only [PV.cells, List.mem_cons, List.not_mem_nil, or_false] at hv
 rcases hv with rfl | rfl | rfl | rfl | rfl | rfl | rfl | rfl | rfl <;> rfl
end Go.Proofs.YtjkiplndbcmmbaaGreatDoor
namespace Go.Proofs.YtjkiplndbcmmbaaGreatDoor
open Tryz
open Go.RowKit
theorem lW (v u : Value) (ts : List (Int × Int)) (w : World) (h : Tr w v ts) (h2 : Tr w u ts) :
  Calls prog 82 #[v, u] w fun e w' => e = .returned (.bool true) ∧ Below w.heap.size w w' := by
 obtain ⟨n, hn⟩ : ∃ n, n = ts.length := ⟨_, rfl⟩
 obtain ⟨a, c, rfl, h1, hc⟩ : ∃ a c, v = .slice a n c ∧ n ≤ c ∧ c ≤ 9223372036854775807 := by obtain ⟨_, a, c, e, h1, h2, _⟩ := h; exact ⟨a, c, by rw [hn]; exact e, by rw [hn]; exact h1, h2⟩
 obtain ⟨a', c', rfl, h1', hc'⟩ : ∃ a c, u = .slice a n c ∧ n ≤ c ∧ c ≤ 9223372036854775807 := by obtain ⟨_, a, c, e, h1, h2, _⟩ := h2; exact ⟨a, c, by rw [hn]; exact e, by rw [hn]; exact h1, h2⟩
 have HA := hI_ h
 have HC := hI_ h2
 clear h h2 hn
 go_enter func82, ntmps82
 go_wp2_with fail
 go_loopw [13] (fun i wr => ∃ k : Nat, k ≤ n ∧ i = .int .i64 k ∧ Below w.heap.size w wr) (fun i _ => n - (intOf i).toNat)
 case atStart => exact ⟨0, by omega, rfl, Below.refl _ _⟩
 case round =>
  obtain ⟨k, hk, rfl, hbel⟩ := hrel
  have HB := hI_ hbel
  clear hbel
  by_cases hkn : k = n
  ·subst hkn
   go_wp2_with fail
   go_ret
   exact ⟨rfl, HB.out⟩
  have hk' : k < n := by omega
  obtain ⟨b, off, rfl, hb, z1, z2⟩ := (HA.out.step HB.out).at k hk'
  obtain ⟨b', off', rfl, hb', z3, z4⟩ := (HC.out.step HB.out).at k hk'
  generalize (ts.getD k (0, 0)).1 = f at *
  generalize (ts.getD k (0, 0)).2 = g at *
  rw [Nat.mul_comm 2 k] at z1 z2 z3 z4
  have d1 : (0 : Int) ≤ (k : Int) := by omega
  have d2 : (k : Int) < (n : Int) := by omega
  go_wp2_with fail
  go_quiet (fail)
  go_wp2_with fail
  exact ⟨⟨k + 1, by omega, by go_num, aM HB.out _⟩, by simp [intOf]; omega⟩
theorem eq8 (w : World) (n0 n1 n2 n3 n4 n5 n6 n7 : Int) : (Op.equalIn 10000 28 (.agg #[.int .i64 n0, .int .i64 n1, .int .i64 n2, .int .i64 n3, .int .i64 n4, .int .i64 n5, .int .i64 n6, .int .i64 n7]) (.agg #[.int .i64 n0, .int .i64 n1, .int .i64 n2, .int .i64 n3, .int .i64 n4, .int .i64 n5, .int .i64 n6, .int .i64 n7])).run prog w = .ok true w := by
 obtain ⟨i, hi⟩ : ∃ i, prog.info? 2 = some i := Option.isSome_iff_exists.1 (by kernel_rfl)
 rw [show (10000 : Nat) = 9999 + 1 from rfl, run_equalIn_array (P := prog) w 9999 _ _ underlying28 hi]
 have hc : prog.cellsOf 2 = 1 := by kernel_rfl
 rw [hc]
 simp [Op.eqItems, List.range, List.range.loop, go_sem]
theorem gR (x : E8) (tv tu : Value) (w : World) (hx : x.ok) (h : Tr w tv x.ts) (h2 : Tr w tu x.ts) :
  Calls prog 54 #[.agg (x.cells tv).toArray, .agg (x.cells tu).toArray] w fun e w' => e = .returned (.bool true) ∧ Below w.heap.size w w' := by
 have A := (aa w (x.cells tv) 31).alloc (.cells (x.cells tu).toArray 31)
 have B := aa (w.alloc (.cells (x.cells tv).toArray 31)) (x.cells tu) 31
 rw [World.size_alloc] at B
 have D := ((Below.refl w.heap.size w).alloc (Nat.le_refl _) (.cells (x.cells tv).toArray 31)).alloc (by simp) (.cells (x.cells tu).toArray 31)
 have H1 := hI_ (h.step D)
 have H2 := hI_ (h2.step D)
 have HD := hI_ D
 have p0 := A.cell 0 (E8.c0 _ _)
 have q0 := B.cell 0 (E8.c0 _ _)
 have p1 := A.cell 1 (E8.c1 _ _)
 have q1 := B.cell 1 (E8.c1 _ _)
 have p10 := A.cell 10 (E8.ctv hx _)
 have q10 := B.cell 10 (E8.ctv hx _)
 obtain ⟨ta, tn, tc, rfl⟩ : ∃ a n c, tv = .slice a n c := by obtain ⟨_, a, c, e, _⟩ := h; exact ⟨a, _, c, e⟩
 obtain ⟨ua, un, uc, rfl⟩ : ∃ a n c, tu = .slice a n c := by obtain ⟨_, a, c, e, _⟩ := h2; exact ⟨a, _, c, e⟩
 have a0 := A.cell 2 (E8.cn hx _ 0 (by omega))
 have b0 := B.cell 2 (E8.cn hx _ 0 (by omega))
 have a1 := A.cell 3 (E8.cn hx _ 1 (by omega))
 have b1 := B.cell 3 (E8.cn hx _ 1 (by omega))
 have a2 := A.cell 4 (E8.cn hx _ 2 (by omega))
 have b2 := B.cell 4 (E8.cn hx _ 2 (by omega))
 have a3 := A.cell 5 (E8.cn hx _ 3 (by omega))
 have b3 := B.cell 5 (E8.cn hx _ 3 (by omega))
 have a4 := A.cell 6 (E8.cn hx _ 4 (by omega))
 have b4 := B.cell 6 (E8.cn hx _ 4 (by omega))
 have a5 := A.cell 7 (E8.cn hx _ 5 (by omega))
 have b5 := B.cell 7 (E8.cn hx _ 5 (by omega))
 have a6 := A.cell 8 (E8.cn hx _ 6 (by omega))
 have b6 := B.cell 8 (E8.cn hx _ 6 (by omega))
 have a7 := A.cell 9 (E8.cn hx _ 7 (by omega))
 have b7 := B.cell 9 (E8.cn hx _ 7 (by omega))
 generalize x.ns.getD 0 0 = n0 at *
 generalize x.ns.getD 1 0 = n1 at *
 generalize x.ns.getD 2 0 = n2 at *
 generalize x.ns.getD 3 0 = n3 at *
 generalize x.ns.getD 4 0 = n4 at *
 generalize x.ns.getD 5 0 = n5 at *
 generalize x.ns.getD 6 0 = n6 at *
 generalize x.ns.getD 7 0 = n7 at *
 have e8 := fun w => eq8 w n0 n1 n2 n3 n4 n5 n6 n7
 clear A B D h h2
 go_enter func54, ntmps54
 go_wp2_with (go_at_call 82; refine (lW _ _ x.ts _ H1.out H2.out).mono ?_; rintro e w1 ⟨rfl, b1⟩)
 go_ret
 exact ⟨rfl, HD.out.trans (b1.mono HD.out.size)⟩
theorem lU (x : E8) (tv : Value) (w : World) (hx : x.ok) (R : Tr w tv x.ts) (f : x.op < 1 ∨ 15 < x.op) :
  Calls prog 71 #[.agg (x.cells tv).toArray] w fun e w' => e = .returned (.int .i64 3) ∧ Below w.heap.size w w' := by
 have V := aa w (x.cells tv) 31
 have y0 := V.cell 0 (x.c0 tv)
 have y10 := V.cell 10 (E8.ctv hx tv)
 obtain ⟨ta, tc, rfl, ht1, ht2⟩ : ∃ a c, tv = .slice a x.ts.length c ∧ x.ts.length ≤ c ∧ c ≤ 9223372036854775807 := by obtain ⟨_, a, c, e, h1, h2, _⟩ := R; exact ⟨a, c, e, h1, h2⟩
 have HB := hI_ ((Below.refl w.heap.size w).alloc (Nat.le_refl _) (.cells (x.cells (.slice ta x.ts.length tc)).toArray 31))
 have o255 := hx.op
 have HF := hI_ f
 clear V R hx f
 generalize x.ts.length = tn at *
 go_enter func71, ntmps71
 go_wp2_with fail
 generalize w.alloc (.cells (x.cells (.slice ta tn tc)).toArray 31) = w1 at *
 refine (qc x.op _ HF.out o255).mono ?_
 rintro e w2 ⟨rfl, rfl⟩
 go_wp2_with fail
 go_quiet (fail)
 go_wp2_with fail
 go_ret
 exact ⟨rfl, aM HB.out _⟩
theorem ko (x : E8) (tv : Value) (w : World) (hx : x.ok) (T : Tc w) (R : Tr w tv x.ts) (f1 : 1 ≤ x.op) (f2 : x.op ≤ 15) (f3 : most x.op < x.ts.length) :
  Calls prog 71 #[.agg (x.cells tv).toArray] w fun e w' => e = .returned (.int .i64 3) ∧ Below w.heap.size w w' := by
 have V := aa w (x.cells tv) 31
 have y0 := V.cell 0 (x.c0 tv)
 have y10 := V.cell 10 (E8.ctv hx tv)
 obtain ⟨ta, tc, rfl, ht1, ht2⟩ : ∃ a c, tv = .slice a x.ts.length c ∧ x.ts.length ≤ c ∧ c ≤ 9223372036854775807 := by obtain ⟨_, a, c, e, h1, h2, _⟩ := R; exact ⟨a, c, e, h1, h2⟩
 have HB := hI_ ((Below.refl w.heap.size w).alloc (Nat.le_refl _) (.cells (x.cells (.slice ta x.ts.length tc)).toArray 31))
 have o255 := hx.op
 have hT := hI_ (T.step HB.out (by have := T.lt; omega))
 clear V R hx T
 generalize x.ts.length = tn at *
 obtain ⟨op, hop⟩ : ∃ op, op = x.op := ⟨_, rfl⟩
 rw [← hop] at y0 f1 f2 f3 o255
 obtain ⟨ms, hms⟩ : ∃ ms, ms = most op := ⟨_, rfl⟩
 have HM := hI_ hms
 rw [← hms] at f3
 have dm : decide (ms < tn) = true := decide_eq_true f3
 clear hop hms
 go_enter func71, ntmps71
 go_wp2_with fail
 generalize w.alloc (.cells (x.cells (.slice ta tn tc)).toArray 31) = w1 at *
 refine (iP op _ hT.out f1 f2).mono ?_
 rintro e w2 ⟨rfl, rfl⟩
 generalize ((ct.getD op 0 : Nat) : Int) = N at *
 go_wp2_with fail
 go_region_held3 (fun w' => w'.cell? ⟨w.heap.size, 0, none⟩ = some (.int .u8 (op : Int)) ∧ w'.cell? ⟨w.heap.size, 10, none⟩ = some (.slice ta tn tc))
  (first | exact ⟨y0, y10⟩)
  (first | (go_at_call 108; refine (n8 op _ (by omega)).mono ?_; rintro e w4 ⟨rfl, rfl⟩; rw [← HM.out]))
 go_wp2_with fail
 go_ret
 exact ⟨rfl, HB.out.drew⟩
theorem o8 (x : E8) (tv : Value) (w : World) (hx : x.ok) (T : Tc w) (R : Tr w tv x.ts) (hf : ¬ x.form) :
  Calls prog 71 #[.agg (x.cells tv).toArray] w fun e w' => e = .returned (.int .i64 3) ∧ Below w.heap.size w w' := by
 by_cases h1 : x.op < 1 ∨ 15 < x.op
 ·exact lU x tv w hx R h1
 ·by_cases h2 : most x.op < x.ts.length
  ·exact ko x tv w hx T R (by omega) (by omega) h2
  ·exact kf x tv w hx T R (by omega) (by omega) (by omega) 3 (Or.inr ⟨fun hz => hf ⟨by omega, by omega, by omega, hz⟩, rfl⟩)
end Go.Proofs.YtjkiplndbcmmbaaGreatDoor