/- texts of the model: Nf Pa Pb Pd Pe Pf Qa Pc -/
import Derived.Test.YtjkiplndbcmmbaaGreatDoorX12
import Derived.Test.YtjkiplndbcmmbaaGreatDoorX02
set_option linter.unusedVariables false
set_option linter.unusedSimpArgs false
set_option maxHeartbeats 16000000
namespace Go.Proofs.YtjkiplndbcmmbaaGreatDoor
open Go.RowKit
attribute [local go_sem] au ao av aj ag ak aJ aA aB aC aS aT aU aV aW eZ
def rnum (n : Nat) (shift : Int) : Nat := n * 10 ^ shift.toNat
def rden (d : Nat) (shift : Int) : Nat := d * 10 ^ (-shift).toNat
def rquo (neg : Bool) (n d : Nat) (shift : Int) (mode : Nat) : Nat :=
 rnum n shift / rden d shift + (if away neg (rnum n shift / rden d shift) (rnum n shift % rden d shift) (rden d shift) mode then 1 else 0)
theorem ek : IsW 1 1 0 0 0 0 := by
 have h := fun i (hi : 0 < i) => ft 1 i (by decide) hi
 exact ⟨by rw [lP 1 (by decide)]; rfl, by rw [h 1 (by decide)], by rw [h 2 (by decide)], by rw [h 3 (by decide)], by rw [h 4 (by decide)]⟩
theorem dE (neg : Bool) (n d mode : Nat) (shift : Int) (w : World) (hm : mode ≤ 6) (hn : rnum n shift < B ^ 5) (hd : 0 < rden d shift) (hd5 : 2 * rden d shift ≤ B ^ 5) :
  ∃ q r : Nat, q = rnum n shift / rden d shift ∧ r = rnum n shift % rden d shift ∧ q < B ^ 5 ∧ 2 * r < B ^ 5 ∧ rden d shift < B ^ 5 := by
 refine ⟨_, _, rfl, rfl, Nat.lt_of_le_of_lt (Nat.div_le_self _ _) hn, ?_, by omega⟩
 have := Nat.mod_lt (rnum n shift) hd
 omega
set_option maxRecDepth 100000 in
theorem pL (neg : Bool) (n d mode : Nat) (b0 b1 b2 b3 b4 shift : Int) (w : World) (hdw : IsW d b0 b1 b2 b3 b4) (hm : mode ≤ 6) (hn : rnum n shift < B ^ 5) (hd : 0 < rden d shift) (hd5 : 2 * rden d shift ≤ B ^ 5) (hs : shift < 0) (hs1 : -1000 ≤ shift) (hs2 : shift ≤ 1000)
  (hw : away neg (rnum n shift / rden d shift) (rnum n shift % rden d shift) (rden d shift) mode = false) :
  Calls Tryz.prog 65 #[.agg #[.bool neg, .int .u64 (wd (n) 0), .int .u64 (wd (n) 1), .int .u64 (wd (n) 2), .int .u64 (wd (n) 3), .int .u64 (wd (n) 4)], .agg #[.int .u64 b0, .int .u64 b1, .int .u64 b2, .int .u64 b3, .int .u64 b4], .int .i64 shift, .int .i64 mode] w
   fun e w' => e = .returned (.agg #[.bool neg, .int .u64 (wd (rquo neg n d shift mode) 0), .int .u64 (wd (rquo neg n d shift mode) 1), .int .u64 (wd (rquo neg n d shift mode) 2), .int .u64 (wd (rquo neg n d shift mode) 3), .int .u64 (wd (rquo neg n d shift mode) 4)]) ∧ Below w.heap.size w w' := by
 obtain ⟨q, r, hq, hr, q5, r5, d5⟩ := dE neg n d mode shift w hm hn hd hd5
 obtain ⟨u, hu⟩ : ∃ u, u = (-shift).toNat := ⟨_, rfl⟩
 have hu3 : u ≤ 1000 := by omega
 have eu : -shift = (u : Int) := by omega
 have hfin : rquo neg n d shift mode = q := by unfold rquo; rw [hw, ← hq]; simp
 rw [hfin]
 rw [← hq, ← hr] at hw
 have HD : Hid (∀ w : World, Calls Tryz.prog 100 #[.agg #[.int .u64 (wd (n) 0), .int .u64 (wd (n) 1), .int .u64 (wd (n) 2), .int .u64 (wd (n) 3), .int .u64 (wd (n) 4)], .agg #[.int .u64 (wd (d * 10 ^ u) 0), .int .u64 (wd (d * 10 ^ u) 1), .int .u64 (wd (d * 10 ^ u) 2), .int .u64 (wd (d * 10 ^ u) 3), .int .u64 (wd (d * 10 ^ u) 4)]] w fun e w' => e = .returned (.tuple #[.agg #[.int .u64 (wd (q) 0), .int .u64 (wd (q) 1), .int .u64 (wd (q) 2), .int .u64 (wd (q) 3), .int .u64 (wd (q) 4)], .agg #[.int .u64 (wd (r) 0), .int .u64 (wd (r) 1), .int .u64 (wd (r) 2), .int .u64 (wd (r) 3), .int .u64 (wd (r) 4)]]) ∧ Below w.heap.size w w') := by
  intro w
  rw [hq, hr]
  exact cS (rnum n shift) (rden d shift) _ _ _ _ _ _ _ _ _ _ w (by unfold rnum; rw [show shift.toNat = 0 by omega, Nat.pow_zero, Nat.mul_one]; exact IsW.self _) (by unfold rden; rw [← hu]; exact IsW.self _) hn hd hd5
 have HA : Hid (∀ w : World, Calls Tryz.prog 101 #[.bool neg, .agg #[.int .u64 (wd (q) 0), .int .u64 (wd (q) 1), .int .u64 (wd (q) 2), .int .u64 (wd (q) 3), .int .u64 (wd (q) 4)], .agg #[.int .u64 (wd (r) 0), .int .u64 (wd (r) 1), .int .u64 (wd (r) 2), .int .u64 (wd (r) 3), .int .u64 (wd (r) 4)], .agg #[.int .u64 (wd (d * 10 ^ u) 0), .int .u64 (wd (d * 10 ^ u) 1), .int .u64 (wd (d * 10 ^ u) 2), .int .u64 (wd (d * 10 ^ u) 3), .int .u64 (wd (d * 10 ^ u) 4)], .int .i64 mode] w fun e w' => e = .returned (.bool false) ∧ Below w.heap.size w w') := by
  intro w
  rw [← hw]
  exact eW neg q r (rden d shift) mode _ _ _ _ _ _ _ _ _ _ _ _ _ _ _ w (IsW.self _) (IsW.self _) (by unfold rden; rw [← hu]; exact IsW.self _) q5 r5 d5 hm
 clear hw hfin hq hr hn hd hd5 hu
 go_enter Tryz.func65, Tryz.ntmps65
 go_wp2_with (first | (go_at_call 99; refine (fp d u _ _ _ _ _ _ hdw hu3).mono ?_; rintro e w1 ⟨rfl, hb1⟩; obtain ⟨x, rfl⟩ := a9 hb1; clear hb1) | (go_at_call 100; refine (HD.out _).mono ?_; rintro e w1 ⟨rfl, hb1⟩; obtain ⟨y, rfl⟩ := a9 hb1; clear hb1) | (go_at_call 101; refine (HA.out _).mono ?_; rintro e w1 ⟨rfl, hb1⟩; obtain ⟨z, rfl⟩ := a9 hb1; clear hb1))
 refine bodyPost_ret (v := .agg _) (by simp [results, Tryz.results65, go_sem]) rfl ⟨rfl, ?_⟩
 repeat (first | exact Below.refl _ _ | refine Below.drew ?_ | refine below_drewN ?_ _ | refine ac ?_ _ | refine ae ?_ _ | (refine Below.setCell ?_ ?_ _; rotate_left; (simp <;> omega)))
set_option maxRecDepth 100000 in
theorem pM (neg : Bool) (n d mode : Nat) (b0 b1 b2 b3 b4 shift : Int) (w : World) (hdw : IsW d b0 b1 b2 b3 b4) (hm : mode ≤ 6) (hn : rnum n shift < B ^ 5) (hd : 0 < rden d shift) (hd5 : 2 * rden d shift ≤ B ^ 5) (hs : shift < 0) (hs1 : -1000 ≤ shift) (hs2 : shift ≤ 1000)
  (hw : away neg (rnum n shift / rden d shift) (rnum n shift % rden d shift) (rden d shift) mode = true) :
  Calls Tryz.prog 65 #[.agg #[.bool neg, .int .u64 (wd (n) 0), .int .u64 (wd (n) 1), .int .u64 (wd (n) 2), .int .u64 (wd (n) 3), .int .u64 (wd (n) 4)], .agg #[.int .u64 b0, .int .u64 b1, .int .u64 b2, .int .u64 b3, .int .u64 b4], .int .i64 shift, .int .i64 mode] w
   fun e w' => e = .returned (.agg #[.bool neg, .int .u64 (wd (rquo neg n d shift mode) 0), .int .u64 (wd (rquo neg n d shift mode) 1), .int .u64 (wd (rquo neg n d shift mode) 2), .int .u64 (wd (rquo neg n d shift mode) 3), .int .u64 (wd (rquo neg n d shift mode) 4)]) ∧ Below w.heap.size w w' := by
 obtain ⟨q, r, hq, hr, q5, r5, d5⟩ := dE neg n d mode shift w hm hn hd hd5
 obtain ⟨u, hu⟩ : ∃ u, u = (-shift).toNat := ⟨_, rfl⟩
 have hu3 : u ≤ 1000 := by omega
 have eu : -shift = (u : Int) := by omega
 have hfin : rquo neg n d shift mode = q + 1 := by unfold rquo; rw [hw, ← hq]; simp
 rw [hfin]
 rw [← hq, ← hr] at hw
 have HD : Hid (∀ w : World, Calls Tryz.prog 100 #[.agg #[.int .u64 (wd (n) 0), .int .u64 (wd (n) 1), .int .u64 (wd (n) 2), .int .u64 (wd (n) 3), .int .u64 (wd (n) 4)], .agg #[.int .u64 (wd (d * 10 ^ u) 0), .int .u64 (wd (d * 10 ^ u) 1), .int .u64 (wd (d * 10 ^ u) 2), .int .u64 (wd (d * 10 ^ u) 3), .int .u64 (wd (d * 10 ^ u) 4)]] w fun e w' => e = .returned (.tuple #[.agg #[.int .u64 (wd (q) 0), .int .u64 (wd (q) 1), .int .u64 (wd (q) 2), .int .u64 (wd (q) 3), .int .u64 (wd (q) 4)], .agg #[.int .u64 (wd (r) 0), .int .u64 (wd (r) 1), .int .u64 (wd (r) 2), .int .u64 (wd (r) 3), .int .u64 (wd (r) 4)]]) ∧ Below w.heap.size w w') := by
  intro w
  rw [hq, hr]
  exact cS (rnum n shift) (rden d shift) _ _ _ _ _ _ _ _ _ _ w (by unfold rnum; rw [show shift.toNat = 0 by omega, Nat.pow_zero, Nat.mul_one]; exact IsW.self _) (by unfold rden; rw [← hu]; exact IsW.self _) hn hd hd5
 have HA : Hid (∀ w : World, Calls Tryz.prog 101 #[.bool neg, .agg #[.int .u64 (wd (q) 0), .int .u64 (wd (q) 1), .int .u64 (wd (q) 2), .int .u64 (wd (q) 3), .int .u64 (wd (q) 4)], .agg #[.int .u64 (wd (r) 0), .int .u64 (wd (r) 1), .int .u64 (wd (r) 2), .int .u64 (wd (r) 3), .int .u64 (wd (r) 4)], .agg #[.int .u64 (wd (d * 10 ^ u) 0), .int .u64 (wd (d * 10 ^ u) 1), .int .u64 (wd (d * 10 ^ u) 2), .int .u64 (wd (d * 10 ^ u) 3), .int .u64 (wd (d * 10 ^ u) 4)], .int .i64 mode] w fun e w' => e = .returned (.bool true) ∧ Below w.heap.size w w') := by
  intro w
  rw [← hw]
  exact eW neg q r (rden d shift) mode _ _ _ _ _ _ _ _ _ _ _ _ _ _ _ w (IsW.self _) (IsW.self _) (by unfold rden; rw [← hu]; exact IsW.self _) q5 r5 d5 hm
 clear hw hfin hq hr hn hd hd5 hu
 go_enter Tryz.func65, Tryz.ntmps65
 go_wp2_with (first | (go_at_call 99; refine (fp d u _ _ _ _ _ _ hdw hu3).mono ?_; rintro e w1 ⟨rfl, hb1⟩; obtain ⟨x, rfl⟩ := a9 hb1; clear hb1) | (go_at_call 100; refine (HD.out _).mono ?_; rintro e w1 ⟨rfl, hb1⟩; obtain ⟨y, rfl⟩ := a9 hb1; clear hb1) | (go_at_call 101; refine (HA.out _).mono ?_; rintro e w1 ⟨rfl, hb1⟩; obtain ⟨z, rfl⟩ := a9 hb1; clear hb1) | (go_at_call 102; refine (bE q 1 _ _ _ _ _ _ _ _ _ _ _ (IsW.self _) ek).mono ?_; rintro e w1 ⟨rfl, hb1⟩; obtain ⟨v, rfl⟩ := a9 hb1; clear hb1))
 refine bodyPost_ret (v := .agg _) (by simp [results, Tryz.results65, go_sem]) rfl ⟨rfl, ?_⟩
 repeat (first | exact Below.refl _ _ | refine Below.drew ?_ | refine below_drewN ?_ _ | refine ac ?_ _ | refine ae ?_ _ | (refine Below.setCell ?_ ?_ _; rotate_left; (simp <;> omega)))
set_option maxRecDepth 100000 in
theorem pN (neg : Bool) (n d mode : Nat) (b0 b1 b2 b3 b4 shift : Int) (w : World) (hdw : IsW d b0 b1 b2 b3 b4) (hm : mode ≤ 6) (hn : rnum n shift < B ^ 5) (hd : 0 < rden d shift) (hd5 : 2 * rden d shift ≤ B ^ 5) (hs : 0 ≤ shift) (hs1 : -1000 ≤ shift) (hs2 : shift ≤ 1000)
  (hw : away neg (rnum n shift / rden d shift) (rnum n shift % rden d shift) (rden d shift) mode = false) :
  Calls Tryz.prog 65 #[.agg #[.bool neg, .int .u64 (wd (n) 0), .int .u64 (wd (n) 1), .int .u64 (wd (n) 2), .int .u64 (wd (n) 3), .int .u64 (wd (n) 4)], .agg #[.int .u64 b0, .int .u64 b1, .int .u64 b2, .int .u64 b3, .int .u64 b4], .int .i64 shift, .int .i64 mode] w
   fun e w' => e = .returned (.agg #[.bool neg, .int .u64 (wd (rquo neg n d shift mode) 0), .int .u64 (wd (rquo neg n d shift mode) 1), .int .u64 (wd (rquo neg n d shift mode) 2), .int .u64 (wd (rquo neg n d shift mode) 3), .int .u64 (wd (rquo neg n d shift mode) 4)]) ∧ Below w.heap.size w w' := by
 obtain ⟨q, r, hq, hr, q5, r5, d5⟩ := dE neg n d mode shift w hm hn hd hd5
 obtain ⟨u, hu⟩ : ∃ u, u = shift.toNat := ⟨_, rfl⟩
 have hu3 : u ≤ 1000 := by omega
 have eu : shift = (u : Int) := by omega
 have hfin : rquo neg n d shift mode = q := by unfold rquo; rw [hw, ← hq]; simp
 rw [hfin]
 rw [← hq, ← hr] at hw
 have HD : Hid (∀ w : World, Calls Tryz.prog 100 #[.agg #[.int .u64 (wd (n * 10 ^ u) 0), .int .u64 (wd (n * 10 ^ u) 1), .int .u64 (wd (n * 10 ^ u) 2), .int .u64 (wd (n * 10 ^ u) 3), .int .u64 (wd (n * 10 ^ u) 4)], .agg #[.int .u64 b0, .int .u64 b1, .int .u64 b2, .int .u64 b3, .int .u64 b4]] w fun e w' => e = .returned (.tuple #[.agg #[.int .u64 (wd (q) 0), .int .u64 (wd (q) 1), .int .u64 (wd (q) 2), .int .u64 (wd (q) 3), .int .u64 (wd (q) 4)], .agg #[.int .u64 (wd (r) 0), .int .u64 (wd (r) 1), .int .u64 (wd (r) 2), .int .u64 (wd (r) 3), .int .u64 (wd (r) 4)]]) ∧ Below w.heap.size w w') := by
  intro w
  rw [hq, hr]
  exact cS (rnum n shift) (rden d shift) _ _ _ _ _ _ _ _ _ _ w (by unfold rnum; rw [← hu]; exact IsW.self _) (by unfold rden; rw [show (-shift).toNat = 0 by omega, Nat.pow_zero, Nat.mul_one]; exact hdw) hn hd hd5
 have HA : Hid (∀ w : World, Calls Tryz.prog 101 #[.bool neg, .agg #[.int .u64 (wd (q) 0), .int .u64 (wd (q) 1), .int .u64 (wd (q) 2), .int .u64 (wd (q) 3), .int .u64 (wd (q) 4)], .agg #[.int .u64 (wd (r) 0), .int .u64 (wd (r) 1), .int .u64 (wd (r) 2), .int .u64 (wd (r) 3), .int .u64 (wd (r) 4)], .agg #[.int .u64 b0, .int .u64 b1, .int .u64 b2, .int .u64 b3, .int .u64 b4], .int .i64 mode] w fun e w' => e = .returned (.bool false) ∧ Below w.heap.size w w') := by
  intro w
  rw [← hw]
  exact eW neg q r (rden d shift) mode _ _ _ _ _ _ _ _ _ _ _ _ _ _ _ w (IsW.self _) (IsW.self _) (by unfold rden; rw [show (-shift).toNat = 0 by omega, Nat.pow_zero, Nat.mul_one]; exact hdw) q5 r5 d5 hm
 clear hw hfin hq hr hn hd hd5 hu
 go_enter Tryz.func65, Tryz.ntmps65
 go_wp2_with (first | (go_at_call 99; refine (fp n u _ _ _ _ _ _ (IsW.self _) hu3).mono ?_; rintro e w1 ⟨rfl, hb1⟩; obtain ⟨x, rfl⟩ := a9 hb1; clear hb1) | (go_at_call 100; refine (HD.out _).mono ?_; rintro e w1 ⟨rfl, hb1⟩; obtain ⟨y, rfl⟩ := a9 hb1; clear hb1) | (go_at_call 101; refine (HA.out _).mono ?_; rintro e w1 ⟨rfl, hb1⟩; obtain ⟨z, rfl⟩ := a9 hb1; clear hb1))
 refine bodyPost_ret (v := .agg _) (by simp [results, Tryz.results65, go_sem]) rfl ⟨rfl, ?_⟩
 repeat (first | exact Below.refl _ _ | refine Below.drew ?_ | refine below_drewN ?_ _ | refine ac ?_ _ | refine ae ?_ _ | (refine Below.setCell ?_ ?_ _; rotate_left; (simp <;> omega)))
set_option maxRecDepth 100000 in
theorem pO (neg : Bool) (n d mode : Nat) (b0 b1 b2 b3 b4 shift : Int) (w : World) (hdw : IsW d b0 b1 b2 b3 b4) (hm : mode ≤ 6) (hn : rnum n shift < B ^ 5) (hd : 0 < rden d shift) (hd5 : 2 * rden d shift ≤ B ^ 5) (hs : 0 ≤ shift) (hs1 : -1000 ≤ shift) (hs2 : shift ≤ 1000)
  (hw : away neg (rnum n shift / rden d shift) (rnum n shift % rden d shift) (rden d shift) mode = true) :
  Calls Tryz.prog 65 #[.agg #[.bool neg, .int .u64 (wd (n) 0), .int .u64 (wd (n) 1), .int .u64 (wd (n) 2), .int .u64 (wd (n) 3), .int .u64 (wd (n) 4)], .agg #[.int .u64 b0, .int .u64 b1, .int .u64 b2, .int .u64 b3, .int .u64 b4], .int .i64 shift, .int .i64 mode] w
   fun e w' => e = .returned (.agg #[.bool neg, .int .u64 (wd (rquo neg n d shift mode) 0), .int .u64 (wd (rquo neg n d shift mode) 1), .int .u64 (wd (rquo neg n d shift mode) 2), .int .u64 (wd (rquo neg n d shift mode) 3), .int .u64 (wd (rquo neg n d shift mode) 4)]) ∧ Below w.heap.size w w' := by
 obtain ⟨q, r, hq, hr, q5, r5, d5⟩ := dE neg n d mode shift w hm hn hd hd5
 obtain ⟨u, hu⟩ : ∃ u, u = shift.toNat := ⟨_, rfl⟩
 have hu3 : u ≤ 1000 := by omega
 have eu : shift = (u : Int) := by omega
 have hfin : rquo neg n d shift mode = q + 1 := by unfold rquo; rw [hw, ← hq]; simp
 rw [hfin]
 rw [← hq, ← hr] at hw
 have HD : Hid (∀ w : World, Calls Tryz.prog 100 #[.agg #[.int .u64 (wd (n * 10 ^ u) 0), .int .u64 (wd (n * 10 ^ u) 1), .int .u64 (wd (n * 10 ^ u) 2), .int .u64 (wd (n * 10 ^ u) 3), .int .u64 (wd (n * 10 ^ u) 4)], .agg #[.int .u64 b0, .int .u64 b1, .int .u64 b2, .int .u64 b3, .int .u64 b4]] w fun e w' => e = .returned (.tuple #[.agg #[.int .u64 (wd (q) 0), .int .u64 (wd (q) 1), .int .u64 (wd (q) 2), .int .u64 (wd (q) 3), .int .u64 (wd (q) 4)], .agg #[.int .u64 (wd (r) 0), .int .u64 (wd (r) 1), .int .u64 (wd (r) 2), .int .u64 (wd (r) 3), .int .u64 (wd (r) 4)]]) ∧ Below w.heap.size w w') := by
  intro w
  rw [hq, hr]
  exact cS (rnum n shift) (rden d shift) _ _ _ _ _ _ _ _ _ _ w (by unfold rnum; rw [← hu]; exact IsW.self _) (by unfold rden; rw [show (-shift).toNat = 0 by omega, Nat.pow_zero, Nat.mul_one]; exact hdw) hn hd hd5
 have HA : Hid (∀ w : World, Calls Tryz.prog 101 #[.bool neg, .agg #[.int .u64 (wd (q) 0), .int .u64 (wd (q) 1), .int .u64 (wd (q) 2), .int .u64 (wd (q) 3), .int .u64 (wd (q) 4)], .agg #[.int .u64 (wd (r) 0), .int .u64 (wd (r) 1), .int .u64 (wd (r) 2), .int .u64 (wd (r) 3), .int .u64 (wd (r) 4)], .agg #[.int .u64 b0, .int .u64 b1, .int .u64 b2, .int .u64 b3, .int .u64 b4], .int .i64 mode] w fun e w' => e = .returned (.bool true) ∧ Below w.heap.size w w') := by
  intro w
  rw [← hw]
  exact eW neg q r (rden d shift) mode _ _ _ _ _ _ _ _ _ _ _ _ _ _ _ w (IsW.self _) (IsW.self _) (by unfold rden; rw [show (-shift).toNat = 0 by omega, Nat.pow_zero, Nat.mul_one]; exact hdw) q5 r5 d5 hm
 clear hw hfin hq hr hn hd hd5 hu
 go_enter Tryz.func65, Tryz.ntmps65
 go_wp2_with (first | (go_at_call 99; refine (fp n u _ _ _ _ _ _ (IsW.self _) hu3).mono ?_; rintro e w1 ⟨rfl, hb1⟩; obtain ⟨x, rfl⟩ := a9 hb1; clear hb1) | (go_at_call 100; refine (HD.out _).mono ?_; rintro e w1 ⟨rfl, hb1⟩; obtain ⟨y, rfl⟩ := a9 hb1; clear hb1) | (go_at_call 101; refine (HA.out _).mono ?_; rintro e w1 ⟨rfl, hb1⟩; obtain ⟨z, rfl⟩ := a9 hb1; clear hb1) | (go_at_call 102; refine (bE q 1 _ _ _ _ _ _ _ _ _ _ _ (IsW.self _) ek).mono ?_; rintro e w1 ⟨rfl, hb1⟩; obtain ⟨v, rfl⟩ := a9 hb1; clear hb1))
 refine bodyPost_ret (v := .agg _) (by simp [results, Tryz.results65, go_sem]) rfl ⟨rfl, ?_⟩
 repeat (first | exact Below.refl _ _ | refine Below.drew ?_ | refine below_drewN ?_ _ | refine ac ?_ _ | refine ae ?_ _ | (refine Below.setCell ?_ ?_ _; rotate_left; (simp <;> omega)))
theorem fD (neg : Bool) (n d mode : Nat) (b0 b1 b2 b3 b4 shift : Int) (w : World) (hdw : IsW d b0 b1 b2 b3 b4) (hm : mode ≤ 6) (hn : rnum n shift < B ^ 5) (hd : 0 < rden d shift) (hd5 : 2 * rden d shift ≤ B ^ 5) (hs1 : -1000 ≤ shift) (hs2 : shift ≤ 1000) :
  Calls Tryz.prog 65 #[.agg #[.bool neg, .int .u64 (wd (n) 0), .int .u64 (wd (n) 1), .int .u64 (wd (n) 2), .int .u64 (wd (n) 3), .int .u64 (wd (n) 4)], .agg #[.int .u64 b0, .int .u64 b1, .int .u64 b2, .int .u64 b3, .int .u64 b4], .int .i64 shift, .int .i64 mode] w
   fun e w' => e = .returned (.agg #[.bool neg, .int .u64 (wd (rquo neg n d shift mode) 0), .int .u64 (wd (rquo neg n d shift mode) 1), .int .u64 (wd (rquo neg n d shift mode) 2), .int .u64 (wd (rquo neg n d shift mode) 3), .int .u64 (wd (rquo neg n d shift mode) 4)]) ∧ Below w.heap.size w w' := by
 rcases Int.lt_or_le shift 0 with c | c <;> cases hw : away neg (rnum n shift / rden d shift) (rnum n shift % rden d shift) (rden d shift) mode
 ·exact pL neg n d mode _ _ _ _ _ shift w hdw hm hn hd hd5 c hs1 hs2 hw
 ·exact pM neg n d mode _ _ _ _ _ shift w hdw hm hn hd hd5 c hs1 hs2 hw
 ·exact pN neg n d mode _ _ _ _ _ shift w hdw hm hn hd hd5 c hs1 hs2 hw
 ·exact pO neg n d mode _ _ _ _ _ shift w hdw hm hn hd hd5 c hs1 hs2 hw
end Go.Proofs.YtjkiplndbcmmbaaGreatDoor
namespace Go.Proofs.YtjkiplndbcmmbaaGreatDoor
open Go.RowKit
attribute [local go_sem] au ao av aj ag ak aJ aA aB aC aS aT aU aV aW
theorem bJ (s : Int) (w : World) (h0 : 0 ≤ s) (h1 : s ≤ 18) :
  Calls Tryz.prog 98 #[.int .i64 s] w fun e w' => e = .returned (.bool true) ∧ w' = w := by
 go_enter Tryz.func98, Tryz.ntmps98
 go_wp2
 go_ret
 exact ⟨rfl, rfl⟩
theorem gE (s : Int) (w : World) (h : s < 0 ∨ 18 < s) :
  Calls Tryz.prog 98 #[.int .i64 s] w fun e w' => e = .returned (.bool false) ∧ w' = w := by
 rcases h with h | h
 ·have hd : decide (0 ≤ s) = false := decide_eq_false (by omega)
  go_enter Tryz.func98, Tryz.ntmps98
  go_wp2
  go_ret
  exact ⟨rfl, rfl⟩
 ·have h0 : 0 ≤ s := by omega
  have hd : decide (s ≤ 18) = false := decide_eq_false (by omega)
  go_enter Tryz.func98, Tryz.ntmps98
  go_wp2
  go_ret
  exact ⟨rfl, rfl⟩
theorem cX (s : Int) (mode : Nat) (w : World) (h0 : 0 ≤ s) (h1 : s ≤ 18) (hm : (mode : Int) ≤ 6) :
  Calls Tryz.prog 63 #[.int .i64 s, .int .i64 mode] w fun e w' => e = .returned (.int .i64 0) ∧ w' = w := by
 have hd : decide ((mode : Int) < 0) = false := decide_eq_false (by omega)
 have hd2 : decide ((6 : Int) < (mode : Int)) = false := decide_eq_false (by omega)
 go_enter Tryz.func63, Tryz.ntmps63
 go_wp2_with (go_at_call 98; refine (bJ _ _ h0 h1).mono ?_; rintro e w' ⟨rfl, rfl⟩)
 go_ret
 exact ⟨rfl, rfl⟩
theorem sB (s mode : Int) (w : World) (h : (s < 0 ∨ 18 < s) ∨ mode < 0 ∨ 6 < mode) :
  Calls Tryz.prog 63 #[.int .i64 s, .int .i64 mode] w fun e w' => e = .returned (.int .i64 1) ∧ w' = w := by
 by_cases hs : s < 0 ∨ 18 < s
 ·go_enter Tryz.func63, Tryz.ntmps63
  go_wp2_with (go_at_call 98; refine (gE _ _ hs).mono ?_; rintro e w' ⟨rfl, rfl⟩)
  go_ret
  exact ⟨rfl, rfl⟩
 ·have h0 : 0 ≤ s := by omega
  have h1 : s ≤ 18 := by omega
  by_cases hm : mode < 0
  ·clear h hs
   go_enter Tryz.func63, Tryz.ntmps63
   go_wp2_with (go_at_call 98; refine (bJ _ _ h0 h1).mono ?_; rintro e w' ⟨rfl, rfl⟩)
   go_ret
   exact ⟨rfl, rfl⟩
  ·have hm2 : 6 < mode := by omega
   have hd : decide (mode < 0) = false := decide_eq_false (by omega)
   clear h hs hm
   go_enter Tryz.func63, Tryz.ntmps63
   go_wp2_with (go_at_call 98; refine (bJ _ _ h0 h1).mono ?_; rintro e w' ⟨rfl, rfl⟩)
   go_ret
   exact ⟨rfl, rfl⟩
theorem p7 {c : Int} (hc : InR c) : (dhi c == -9223372036854775808) = false ∨ ((dhi c == -9223372036854775808) = true ∧ (dlo c == 0) = false) := by
 have h1 := hc.lo
 rw [bV] at h1
 by_cases h : dhi c = -9223372036854775808
 ·refine Or.inr ⟨by rw [h]; rfl, beq_eq_false_iff_ne.2 fun h2 => ?_⟩
  unfold dhi at h; unfold dlo at h2; omega
 ·exact Or.inl (beq_eq_false_iff_ne.2 h)
set_option maxRecDepth 100000 in
theorem cO (c h l : Int) (s : Nat) (w : World) (hd : IsD c h l) (hc : InR c) (hs : (s : Int) ≤ 18) :
  Calls Tryz.prog 64 #[.agg #[.int .i64 h, .int .u64 l, .int .i64 s]] w fun e w' => e = .returned (.int .i64 0) ∧ Below w.heap.size w w' := by
 obtain ⟨rfl, rfl⟩ := hd
 rcases p7 hc with e1 | ⟨e1, e2⟩
 ·clear hc
  go_enter Tryz.func64, Tryz.ntmps64
  go_wp2_with (go_at_call 98; refine (bJ _ _ (by omega) hs).mono ?_; rintro e w' ⟨rfl, rfl⟩)
  go_ret
  refine ⟨rfl, ?_⟩
  repeat (first | exact Below.refl _ _ | refine Below.drew ?_ | refine below_drewN ?_ _ | refine ac ?_ _ | refine ae ?_ _ | (refine Below.setCell ?_ ?_ _; rotate_left; (simp <;> omega)))
 ·clear hc
  go_enter Tryz.func64, Tryz.ntmps64
  go_wp2_with (go_at_call 98; refine (bJ _ _ (by omega) hs).mono ?_; rintro e w' ⟨rfl, rfl⟩)
  go_ret
  refine ⟨rfl, ?_⟩
  repeat (first | exact Below.refl _ _ | refine Below.drew ?_ | refine below_drewN ?_ _ | refine ac ?_ _ | refine ae ?_ _ | (refine Below.setCell ?_ ?_ _; rotate_left; (simp <;> omega)))
set_option maxRecDepth 100000 in
theorem mW (h l s : Int) (w : World) (hb : (s < 0 ∨ 18 < s) ∨ (h = -9223372036854775808 ∧ l = 0)) :
  Calls Tryz.prog 64 #[.agg #[.int .i64 h, .int .u64 l, .int .i64 s]] w fun e w' => e = .returned (.int .i64 3) ∧ Below w.heap.size w w' := by
 by_cases hs : s < 0 ∨ 18 < s
 ·clear hb
  go_enter Tryz.func64, Tryz.ntmps64
  go_wp2_with (go_at_call 98; refine (gE _ _ hs).mono ?_; rintro e w' ⟨rfl, rfl⟩)
  go_ret
  refine ⟨rfl, ?_⟩
  repeat (first | exact Below.refl _ _ | refine Below.drew ?_ | refine below_drewN ?_ _ | refine ac ?_ _ | refine ae ?_ _ | (refine Below.setCell ?_ ?_ _; rotate_left; (simp <;> omega)))
 ·obtain ⟨rfl, rfl⟩ := hb.resolve_left hs
  have h0 : 0 ≤ s := by omega
  have h1 : s ≤ 18 := by omega
  clear hb hs
  go_enter Tryz.func64, Tryz.ntmps64
  go_wp2_with (go_at_call 98; refine (bJ _ _ h0 h1).mono ?_; rintro e w' ⟨rfl, rfl⟩)
  go_ret
  refine ⟨rfl, ?_⟩
  repeat (first | exact Below.refl _ _ | refine Below.drew ?_ | refine below_drewN ?_ _ | refine ac ?_ _ | refine ae ?_ _ | (refine Below.setCell ?_ ?_ _; rotate_left; (simp <;> omega)))
set_option maxRecDepth 100000 in
theorem dT (ca ha la cb hb lb : Int) (sa sb : Nat) (w : World) (da : IsD ca ha la) (db : IsD cb hb lb) (ia : InR ca) (ib : InR cb) (hsa : (sa : Int) ≤ 18) (hsb : (sb : Int) ≤ 18) :
  Calls Tryz.prog 57 #[.agg #[.int .i64 ha, .int .u64 la, .int .i64 sa], .agg #[.int .i64 hb, .int .u64 lb, .int .i64 sb]] w fun e w' => e = .returned (.int .i64 0) ∧ Below w.heap.size w w' := by
 go_enter Tryz.func57, Tryz.ntmps57
 go_wp2_with fail
 refine (cO ca _ _ sa _ da ia hsa).mono ?_
 rintro e w1 ⟨rfl, hb1⟩
 obtain ⟨x, rfl⟩ := a9 hb1
 clear hb1
 go_wp2_with fail
 refine (cO cb _ _ sb _ db ib hsb).mono ?_
 rintro e w1 ⟨rfl, hb1⟩
 obtain ⟨y, rfl⟩ := a9 hb1
 clear hb1
 go_wp2
 go_ret
 refine ⟨rfl, ?_⟩
 repeat (first | exact Below.refl _ _ | refine Below.drew ?_ | refine below_drewN ?_ _ | refine ac ?_ _ | refine ae ?_ _ | (refine Below.setCell ?_ ?_ _; rotate_left; (simp <;> omega)))
end Go.Proofs.YtjkiplndbcmmbaaGreatDoor
namespace Go.Proofs.YtjkiplndbcmmbaaGreatDoor
open Go.RowKit
attribute [local go_sem] au ao av aj ag ak aJ aA aB aC aS aT aU aV aW eZ
theorem InR.neg {c : Int} (h : InR c) : InR (-c) := ⟨by have := h.hi; omega, by have := h.lo; omega⟩
theorem lM (ca : Int) (sa : Nat) (cb : Int) (sb : Nat) (ia : InR ca) (ib : InR cb) (hsa : (sa : Int) ≤ 18) (hsb : (sb : Int) ≤ 18) : (tot ca sa cb sb).2 < B ^ 5 := by
 have h1 : up10 ca.natAbs sa (max sa sb) < B ^ 4 := fI (bw ia) (show max sa sb - sa ≤ 18 by omega)
 have h2 : up10 cb.natAbs sb (max sa sb) < B ^ 4 := fI (bw ib) (show max sa sb - sb ≤ 18 by omega)
 have h3 := se (decide (ca < 0), up10 ca.natAbs sa (max sa sb)) (decide (cb < 0), up10 cb.natAbs sb (max sa sb))
 have h4 : 2 * B ^ 4 ≤ B ^ 5 := by rw [Nat.pow_succ B 4, Nat.mul_comm]; exact Nat.mul_le_mul_left _ (by decide)
 unfold tot
 simp only at h3
 omega
set_option maxRecDepth 100000 in
theorem uF (c h l : Int) (s : Nat) (w : World) (hd : IsD c h l) (hc : InR c) (hs : (s : Int) ≤ 18) :
  Calls Tryz.prog 199 #[.agg #[.int .i64 h, .int .u64 l, .int .i64 s]] w
   fun e w' => e = .returned (.tuple #[.agg #[.int .i64 (dhi (-c)), .int .u64 (dlo (-c)), .int .i64 s], .int .i64 0]) ∧ Below w.heap.size w w' := by
 obtain ⟨rfl, rfl⟩ := hd
 go_enter Tryz.func199, Tryz.ntmps199
 go_wp2_with (first | (go_at_call 64; refine (cO c _ _ s _ (IsD.self _) hc hs).mono ?_; rintro e w1 ⟨rfl, hb1⟩; obtain ⟨x, rfl⟩ := a9 hb1; clear hb1) | (go_at_call 67; refine (cg c _ _ _ _ (IsD.self _) hc).mono ?_; rintro e w1 ⟨rfl, hb1⟩; obtain ⟨y, rfl⟩ := a9 hb1; clear hb1))
 refine bodyPost_ret (v := .tuple #[.agg #[.int .i64 (dhi (-c)), .int .u64 (dlo (-c)), .int .i64 s], .int .i64 0]) (by simp [results, Tryz.results199, go_sem]) rfl ⟨rfl, ?_⟩
 repeat (first | exact Below.refl _ _ | refine Below.drew ?_ | refine below_drewN ?_ _ | refine ac ?_ _ | refine ae ?_ _ | (refine Below.setCell ?_ ?_ _; rotate_left; (simp <;> omega)))
theorem iW {c : Int} (hc : InR c) : c.natAbs < B ^ 5 := Nat.lt_trans (bw hc) (by decide)
set_option maxRecDepth 100000 in
theorem sD (c h l : Int) (s : Nat) (w : World) (hd : IsD c h l) (hc : InR c) (hs : (s : Int) ≤ 18) :
  Calls Tryz.prog 106 #[.agg #[.int .i64 h, .int .u64 l, .int .i64 s]] w
   fun e w' => e = .returned (.tuple #[.int .i64 (sgn c), .int .i64 0]) ∧ Below w.heap.size w w' := by
 obtain ⟨rfl, rfl⟩ := hd
 have es := hJ c
 rw [← es]
 have HS : Hid (sv (decide (c < 0)) c.natAbs = c) := es
 clear es
 rw [HS.out]
 have hsg : Hid (sgn (sv (decide (c < 0)) c.natAbs) = sgn c) := by rw [HS.out]; rfl
 go_enter Tryz.func106, Tryz.ntmps106
 go_wp2_with (first | (go_at_call 64; refine (cO c _ _ s _ (IsD.self _) hc hs).mono ?_; rintro e w1 ⟨rfl, hb1⟩; obtain ⟨x, rfl⟩ := a9 hb1; clear hb1) | (go_at_call 66; refine (bg c _ _ _ _ (IsD.self _) hc).mono ?_; rintro e w1 ⟨rfl, hb1⟩; obtain ⟨y, rfl⟩ := a9 hb1; clear hb1) | (go_at_call 68; refine (fm _ _ _ (iW hc)).mono ?_; rintro e w1 ⟨rfl, hb1⟩; obtain ⟨z, rfl⟩ := a9 hb1; clear hb1))
 rw [hsg.out]
 go_ret2
 refine ⟨rfl, ?_⟩
 repeat (first | exact Below.refl _ _ | refine Below.drew ?_ | refine below_drewN ?_ _ | refine ac ?_ _ | refine ae ?_ _ | (refine Below.setCell ?_ ?_ _; rotate_left; (simp <;> omega)))
set_option maxRecDepth 100000 in
theorem tk (ca ha la cb hb lb : Int) (sa sb : Nat) (w : World) (da : IsD ca ha la) (db : IsD cb hb lb) (ia : InR ca) (ib : InR cb) (hsa : (sa : Int) ≤ 18) (hsb : (sb : Int) ≤ 18) (hr : ((tot ca sa cb sb).2 : Int) < M127) :
  Calls Tryz.prog 30 #[.agg #[.int .i64 ha, .int .u64 la, .int .i64 sa], .agg #[.int .i64 hb, .int .u64 lb, .int .i64 sb]] w
   fun e w' => e = .returned (.tuple #[.agg #[.int .i64 (dhi (sv (tot ca sa cb sb).1 (tot ca sa cb sb).2)), .int .u64 (dlo (sv (tot ca sa cb sb).1 (tot ca sa cb sb).2)), .int .i64 ((max sa sb : Nat) : Int)], .int .i64 0]) ∧ Below w.heap.size w w' := by
 obtain ⟨rfl, rfl⟩ := da
 obtain ⟨rfl, rfl⟩ := db
 have n5 : (tot ca sa cb sb).2 < B ^ 5 := lM _ _ _ _ ia ib hsa hsb
 have HR : Hid (((tot ca sa cb sb).2 : Int) < M127) := hr
 have N5 : Hid _ := n5
 clear hr n5
 go_enter Tryz.func30, Tryz.ntmps30
 go_wp2_with (first | (go_at_call 57; refine (dT ca _ _ cb _ _ sa sb _ (IsD.self _) (IsD.self _) ia ib hsa hsb).mono ?_; rintro e w1 ⟨rfl, hb1⟩; obtain ⟨x, rfl⟩ := a9 hb1; clear hb1) | (go_at_call 58; refine (fJ ca _ _ cb _ _ sa sb _ (IsD.self _) (IsD.self _) ia ib hsa hsb).mono ?_; rintro e w1 ⟨rfl, hb1⟩; obtain ⟨z, rfl⟩ := a9 hb1; clear hb1) | (go_at_call 59; refine (gy _ _ _ _ N5.out HR.out).mono ?_; rintro e w1 ⟨rfl, hb1⟩; obtain ⟨v, rfl⟩ := a9 hb1; clear hb1))
 refine bodyPost_ret (v := .tuple #[.agg #[.int .i64 (dhi (sv (tot ca sa cb sb).1 (tot ca sa cb sb).2)), .int .u64 (dlo (sv (tot ca sa cb sb).1 (tot ca sa cb sb).2)), .int .i64 ((max sa sb : Nat) : Int)], .int .i64 0]) (by simp [results, Tryz.results30, go_sem]) rfl ⟨rfl, ?_⟩
 repeat (first | exact Below.refl _ _ | refine Below.drew ?_ | refine below_drewN ?_ _ | refine ac ?_ _ | refine ae ?_ _ | (refine Below.setCell ?_ ?_ _; rotate_left; (simp <;> omega)))
structure Num6 (w : World) (b : Nat) (neg : Bool) (n : Nat) : Prop where
 c0 : w.cell? ⟨b, 0, none⟩ = some (.bool neg)
 c1 : w.cell? ⟨b, 1, none⟩ = some (.int .u64 (wd n 0))
 c2 : w.cell? ⟨b, 2, none⟩ = some (.int .u64 (wd n 1))
 c3 : w.cell? ⟨b, 3, none⟩ = some (.int .u64 (wd n 2))
 c4 : w.cell? ⟨b, 4, none⟩ = some (.int .u64 (wd n 3))
 c5 : w.cell? ⟨b, 5, none⟩ = some (.int .u64 (wd n 4))
structure Dec3 (w : World) (b : Nat) (h l s : Int) : Prop where
 c0 : w.cell? ⟨b, 0, none⟩ = some (.int .i64 h)
 c1 : w.cell? ⟨b, 1, none⟩ = some (.int .u64 l)
 c2 : w.cell? ⟨b, 2, none⟩ = some (.int .i64 s)
 f0 : w.frozen? ⟨b, 0, none⟩ = false
 f1 : w.frozen? ⟨b, 1, none⟩ = false
 f2 : w.frozen? ⟨b, 2, none⟩ = false
theorem Num6.keep {w w' : World} {b n : Nat} {neg : Bool} (h : Num6 w b neg n) (e : w'.heap[b]? = w.heap[b]?) : Num6 w' b neg n := by
 have hc : ∀ j, w'.cell? ⟨b, j, none⟩ = w.cell? ⟨b, j, none⟩ := fun j => World.cell?_of_block (w := w) (w' := w') (a := ⟨b, j, none⟩) e
 obtain ⟨c0, c1, c2, c3, c4, c5⟩ := h
 constructor <;> simp only [hc] <;> assumption
theorem Dec3.keep {w w' : World} {b : Nat} {h l s : Int} (d : Dec3 w b h l s) (e : w'.heap[b]? = w.heap[b]?) : Dec3 w' b h l s := by
 have hc : ∀ j, w'.cell? ⟨b, j, none⟩ = w.cell? ⟨b, j, none⟩ := fun j => World.cell?_of_block (w := w) (w' := w') (a := ⟨b, j, none⟩) e
 have hf : ∀ j, w'.frozen? ⟨b, j, none⟩ = w.frozen? ⟨b, j, none⟩ := fun j => World.frozen?_of_block (w := w) (w' := w') (a := ⟨b, j, none⟩) e
 obtain ⟨c0, c1, c2, f0, f1, f2⟩ := d
 constructor <;> simp only [hc, hf] <;> assumption
def set6 (w : World) (b : Nat) (neg : Bool) (n : Nat) : World := ((((((w.setCell ⟨b, 0, none⟩ (.bool neg)).setCell ⟨b, 1, none⟩ (.int .u64 (wd (n) 0))).setCell ⟨b, 2, none⟩ (.int .u64 (wd (n) 1))).setCell ⟨b, 3, none⟩ (.int .u64 (wd (n) 2))).setCell ⟨b, 4, none⟩ (.int .u64 (wd (n) 3))).setCell ⟨b, 5, none⟩ (.int .u64 (wd (n) 4)))
theorem dH (w : World) (b : Nat) (neg : Bool) (n : Nat) {k : Nat} (h : k ≠ b) : (set6 w b neg n).heap[k]? = w.heap[k]? := by
 unfold set6
 iterate 6 rw [Below.heap_setCell _ _ _ _ (by exact h)]
theorem ep (w : World) (b : Nat) (neg : Bool) (n : Nat) : (set6 w b neg n).heap.size = w.heap.size := by simp [set6]
theorem dG {k : Nat} {a w : World} (h : Below k a w) {b : Nat} (hb : k ≤ b) (neg : Bool) (n : Nat) : Below k a (set6 w b neg n) :=
 (((((h.setCell (p := ⟨b, 0, none⟩) hb _).setCell (p := ⟨b, 1, none⟩) hb _).setCell (p := ⟨b, 2, none⟩) hb _).setCell (p := ⟨b, 3, none⟩) hb _).setCell (p := ⟨b, 4, none⟩) hb _).setCell (p := ⟨b, 5, none⟩) hb _
theorem ko {w : World} {b : Nat} (h : w.heap[b]? = some (.cells #[.bool false, .int .u64 0, .int .u64 0, .int .u64 0, .int .u64 0, .int .u64 0] 125)) (neg : Bool) (n : Nat) : Num6 (set6 w b neg n) b neg n := by
 have c : ∀ i v, #[Value.bool false, .int .u64 0, .int .u64 0, .int .u64 0, .int .u64 0, .int .u64 0][i]? = some v → w.cell? ⟨b, i, none⟩ = some v := fun i v hv => by rw [aY h i]; exact hv
 have c0 := c 0 _ rfl
 have c1 := c 1 _ rfl
 have c2 := c 2 _ rfl
 have c3 := c 3 _ rfl
 have c4 := c 4 _ rfl
 have c5 := c 5 _ rfl
 have s : ∀ (u : World) (i : Nat) (v x : Value), u.cell? ⟨b, i, none⟩ = some x → (u.setCell ⟨b, i, none⟩ v).cell? ⟨b, i, none⟩ = some v := fun u i v x hx => World.cell?_setCell_same _ _ _ hx
 have t : ∀ (u : World) (i j : Nat) (v : Value), i ≠ j → (u.setCell ⟨b, i, none⟩ v).cell? ⟨b, j, none⟩ = u.cell? ⟨b, j, none⟩ := fun u i j v hij => World.cell?_setCell_other _ _ _ _ (eg hij)
 unfold set6
 constructor
 ·rw [t _ _ _ _ (by omega), t _ _ _ _ (by omega), t _ _ _ _ (by omega), t _ _ _ _ (by omega), t _ _ _ _ (by omega)]; exact s _ _ _ _ c0
 ·rw [t _ _ _ _ (by omega), t _ _ _ _ (by omega), t _ _ _ _ (by omega), t _ _ _ _ (by omega)]; exact s _ _ _ _ (by rw [t _ _ _ _ (by omega)]; exact c1)
 ·rw [t _ _ _ _ (by omega), t _ _ _ _ (by omega), t _ _ _ _ (by omega)]; exact s _ _ _ _ (by rw [t _ _ _ _ (by omega), t _ _ _ _ (by omega)]; exact c2)
 ·rw [t _ _ _ _ (by omega), t _ _ _ _ (by omega)]; exact s _ _ _ _ (by rw [t _ _ _ _ (by omega), t _ _ _ _ (by omega), t _ _ _ _ (by omega)]; exact c3)
 ·rw [t _ _ _ _ (by omega)]; exact s _ _ _ _ (by rw [t _ _ _ _ (by omega), t _ _ _ _ (by omega), t _ _ _ _ (by omega), t _ _ _ _ (by omega)]; exact c4)
 ·exact s _ _ _ _ (by rw [t _ _ _ _ (by omega), t _ _ _ _ (by omega), t _ _ _ _ (by omega), t _ _ _ _ (by omega), t _ _ _ _ (by omega)]; exact c5)
structure Two (w w4 : World) (b1 b2 : Nat) (ca cb : Int) (sa sb : Nat) : Prop where
 a : Dec3 w4 w.heap.size (dhi ca) (dlo ca) sa
 b : Dec3 w4 (w.heap.size + 1) (dhi cb) (dlo cb) sb
 r : Dec3 w4 (w.heap.size + 1 + 1) 0 0 0
 x : Num6 w4 b1 (decide (ca < 0)) ca.natAbs
 y : Num6 w4 b2 (decide (cb < 0)) cb.natAbs
 n1 : w.heap.size + 1 + 1 < b1
 n2 : w.heap.size + 1 + 1 < b2
 s1 : b1 < w4.heap.size
 s2 : b2 < w4.heap.size
 bel : Below w.heap.size w w4
theorem Two.step {w w4 w5 : World} {b1 b2 : Nat} {ca cb : Int} {sa sb : Nat} (h : Two w w4 b1 b2 ca cb sa sb) (k : Below w4.heap.size w4 w5) : Two w w5 b1 b2 ca cb sa sb := by
 obtain ⟨a, b, r, x, y, n1, n2, s1, s2, bel⟩ := h
 have := k.size
 exact ⟨a.keep (k.block _ (by omega)), b.keep (k.block _ (by omega)), r.keep (k.block _ (by omega)), x.keep (k.block _ s1), y.keep (k.block _ s2), n1, n2, by omega, by omega, bel.trans (k.mono (by omega))⟩
theorem lO {w w0 w3 : World} {b1 b2 : Nat} {ca cb : Int} {sa sb : Nat} (hz : w.heap.size + 1 + 1 < w0.heap.size) (a : Dec3 w0 w.heap.size (dhi ca) (dlo ca) sa) (b : Dec3 w0 (w.heap.size + 1) (dhi cb) (dlo cb) sb) (r : Dec3 w0 (w.heap.size + 1 + 1) 0 0 0) (bel : Below w.heap.size w w0)
  (hl : Later w0 w3) (h1 : w0.heap.size ≤ b1) (h2 : w0.heap.size ≤ b2) (hne : b1 ≠ b2) (hO1 : w3.heap[b1]? = some (.cells #[.bool false, .int .u64 0, .int .u64 0, .int .u64 0, .int .u64 0, .int .u64 0] 125)) (hO2 : w3.heap[b2]? = some (.cells #[.bool false, .int .u64 0, .int .u64 0, .int .u64 0, .int .u64 0, .int .u64 0] 125)) :
  Two w (set6 (set6 w3 b1 (decide (ca < 0)) ca.natAbs) b2 (decide (cb < 0)) cb.natAbs) b1 b2 ca cb sa sb := by
 have e : ∀ k, k < w0.heap.size → (set6 (set6 w3 b1 (decide (ca < 0)) ca.natAbs) b2 (decide (cb < 0)) cb.natAbs).heap[k]? = w0.heap[k]? := fun k hk => by
  rw [dH _ _ _ _ (by omega), dH _ _ _ _ (by omega)]; exact hl.block k hk
 have l1 := dM hO1
 have l2 := dM hO2
 refine ⟨a.keep (e _ (by omega)), b.keep (e _ (by omega)), r.keep (e _ hz), (ko hO1 _ _).keep (dH _ _ _ _ hne), ko (by rw [dH _ _ _ _ (Ne.symm hne)]; exact hO2) _ _, by omega, by omega, by rw [ep, ep]; exact l1, by rw [ep, ep]; exact l2, ?_⟩
 exact dG (dG (bel.trans (Below.mono hl (by omega))) (by omega) _ _) (by omega) _ _
theorem kp (c : Int) : sgn c = 0 ↔ c = 0 := by unfold sgn; split <;> (try split) <;> omega
theorem fi {u : Nat} (h : u ≤ 18) : 10 ^ u ≤ 10 ^ 18 := Nat.pow_le_pow_right (by decide) h
theorem kd {u : Nat} (h : u ≤ 36) : 10 ^ u ≤ 10 ^ 36 := Nat.pow_le_pow_right (by decide) h
theorem jm (neg : Bool) (n d : Nat) (shift : Int) (mode : Nat) : rquo neg n d shift mode ≤ rnum n shift + 1 := by
 unfold rquo
 have := Nat.div_le_self (rnum n shift) (rden d shift)
 split <;> omega
theorem lD {ca cb : Int} {sa sb t mode : Nat} (neg : Bool) (ia : InR ca) (ib : InR cb) (hsa : (sa : Int) ≤ 18) (hsb : (sb : Int) ≤ 18) (ht : (t : Int) ≤ 18) (h0 : ¬ cb = 0) :
  rnum ca.natAbs ((t : Int) + sb - sa) < B ^ 5 ∧ 0 < rden cb.natAbs ((t : Int) + sb - sa) ∧ 2 * rden cb.natAbs ((t : Int) + sb - sa) ≤ B ^ 5 ∧ rquo neg ca.natAbs cb.natAbs ((t : Int) + sb - sa) mode < B ^ 5 := by
 have e1 : rnum ca.natAbs ((t : Int) + sb - sa) ≤ 2 ^ 127 * 10 ^ 36 := by
  unfold rnum; exact Nat.mul_le_mul (Nat.le_of_lt (bw ia)) (kd (by omega))
 have e2 : rden cb.natAbs ((t : Int) + sb - sa) ≤ 2 ^ 127 * 10 ^ 18 := by
  unfold rden; exact Nat.mul_le_mul (Nat.le_of_lt (bw ib)) (fi (by omega))
 refine ⟨Nat.lt_of_le_of_lt e1 (by decide), ?_, Nat.le_trans (Nat.mul_le_mul_left 2 e2) (by decide), ?_⟩
 ·unfold rden; exact Nat.mul_pos (by omega) (Nat.pow_pos (by decide))
 ·exact Nat.lt_of_le_of_lt (Nat.le_trans (jm _ _ _ _ _) (Nat.add_le_add_right e1 1)) (by decide)
set_option maxRecDepth 100000 in
theorem vZ (ca ha la cb hb lb : Int) (sa sb t mode : Nat) (w : World) (da : IsD ca ha la) (db : IsD cb hb lb) (ia : InR ca) (ib : InR cb) (hsa : (sa : Int) ≤ 18) (hsb : (sb : Int) ≤ 18) (ht : (t : Int) ≤ 18) (hm : (mode : Int) ≤ 6) (h0 : cb = 0) :
  Calls Tryz.prog 164 #[.agg #[.int .i64 ha, .int .u64 la, .int .i64 sa], .agg #[.int .i64 hb, .int .u64 lb, .int .i64 sb], .int .i64 t, .int .i64 mode] w
   fun e w' => e = .returned (.tuple #[.agg #[.int .i64 0, .int .u64 0, .int .i64 0], .int .i64 5]) ∧ Below w.heap.size w w' := by
 obtain ⟨rfl, rfl⟩ := da
 obtain ⟨rfl, rfl⟩ := db
 have H0 : Hid ((sgn (sv (decide (cb < 0)) cb.natAbs) == 0) = true) := by show _ = true; rw [hJ, beq_iff_eq, kp]; exact h0
 clear h0
 go_enter Tryz.func164, Tryz.ntmps164
 go_wp2_with (first | (go_at_call 63; refine (cX _ _ _ (by omega) ht hm).mono ?_; rintro e w1 ⟨rfl, rfl⟩) | (go_at_call 57; refine (dT ca _ _ cb _ _ sa sb _ (IsD.self _) (IsD.self _) ia ib hsa hsb).mono ?_; rintro e w1 ⟨rfl, hb1⟩; obtain ⟨x, rfl⟩ := a9 hb1; clear hb1))
 refine wp_region_any (by kernel_rfl) ?_
 refine eV (done := #[true, true, true, true, false, false, false, false]) 6 [] [0, 1, 2, 3] 4 5 _ _ (.cells #[.bool false, .int .u64 0, .int .u64 0, .int .u64 0, .int .u64 0, .int .u64 0] 125) (.cells #[.bool false, .int .u64 0, .int .u64 0, .int .u64 0, .int .u64 0, .int .u64 0] 125) (by kernel_rfl) (by kernel_rfl) rfl rfl (by kernel_rfl) (by simp) (fun _ _ => ⟨rfl, rfl⟩) (fun _ _ => ⟨rfl, rfl⟩) (by kernel_rfl) (by kernel_rfl) rfl ?_ (cA _)
 iterate 1 (refine aF (fun K hK => ?_); go_simp; refine hK _ ?_; clear hK K)
 refine aF (fun K hK => ?_)
 go_simp
 apply Exists.intro
 refine ⟨fun xq => ?_, hK _ ?_⟩
 ·exact bg ca _ _ _ _ (IsD.self _) ia
 clear hK K
 iterate 1 (refine aF (fun K hK => ?_); go_simp; refine hK _ ?_; clear hK K)
 refine aF (fun K hK => ?_)
 go_simp
 apply Exists.intro
 refine ⟨fun xq => ?_, hK _ ?_⟩
 ·exact bg cb _ _ _ _ (IsD.self _) ib
 clear hK K
 refine cZ ?_
 intro b1 b2 w3 hl h1 h2 hne hO1 hO2
 have T := lO (w := w) (ca := ca) (cb := cb) (sa := sa) (sb := sb) (by rw [bn]; simp <;> omega) (by constructor <;> simp [go_sem]) (by constructor <;> simp [go_sem]) (by constructor <;> simp [go_sem]) (by repeat (first | exact Below.refl _ _ | refine Below.drew ?_ | refine below_drewN ?_ _ | refine ac ?_ _ | refine ae ?_ _ | (refine Below.setCell ?_ ?_ _; rotate_left; (simp <;> omega)))) hl h1 h2 hne hO1 hO2
 have q1 := fun i => aY hO1 i
 have q2 := fun i => aY hO2 i
 have g1 := fun i => b8 hO1 i
 have g2 := fun i => b8 hO2 i
 have hne' : ¬ b1 = b2 := hne
 have hne2 : ¬ b2 = b1 := fun e => hne e.symm
 clear hl h1 h2 hne hO1 hO2
 simp only [List.drop_succ_cons, List.drop_zero]
 go_wp2_with fail
 rw [show ((((((((((((w3.setCell ⟨b1, 0, none⟩ (.bool (decide (ca < 0)))).setCell ⟨b1, 1, none⟩ (.int .u64 (wd (ca.natAbs) 0))).setCell ⟨b1, 2, none⟩ (.int .u64 (wd (ca.natAbs) 1))).setCell ⟨b1, 3, none⟩ (.int .u64 (wd (ca.natAbs) 2))).setCell ⟨b1, 4, none⟩ (.int .u64 (wd (ca.natAbs) 3))).setCell ⟨b1, 5, none⟩ (.int .u64 (wd (ca.natAbs) 4))).setCell ⟨b2, 0, none⟩ (.bool (decide (cb < 0)))).setCell ⟨b2, 1, none⟩ (.int .u64 (wd (cb.natAbs) 0))).setCell ⟨b2, 2, none⟩ (.int .u64 (wd (cb.natAbs) 1))).setCell ⟨b2, 3, none⟩ (.int .u64 (wd (cb.natAbs) 2))).setCell ⟨b2, 4, none⟩ (.int .u64 (wd (cb.natAbs) 3))).setCell ⟨b2, 5, none⟩ (.int .u64 (wd (cb.natAbs) 4))) = set6 (set6 w3 b1 (decide (ca < 0)) ca.natAbs) b2 (decide (cb < 0)) cb.natAbs from rfl]
 generalize set6 (set6 w3 b1 (decide (ca < 0)) ca.natAbs) b2 (decide (cb < 0)) cb.natAbs = w4 at *
 clear q1 q2 g1 g2
 refine (fm (decide (cb < 0)) cb.natAbs w4 (iW ib)).mono ?_
 rintro e w5 ⟨rfl, hb5⟩
 obtain ⟨⟨a0, a1, a2, -, -, -⟩, ⟨c0, c1, c2, -, -, -⟩, ⟨r0, r1, r2, f0, f1, f2⟩, ⟨x0, x1, x2, x3, x4, x5⟩, ⟨y0, y1, y2, y3, y4, y5⟩, n1, n2, s1, s2, bel⟩ := T.step hb5
 clear T hb5
 have p0 : w.heap.size < w5.heap.size := by omega
 have p1 : w.heap.size + 1 < w5.heap.size := by omega
 have p2 : w.heap.size + 1 + 1 < w5.heap.size := by omega
 have H0' := H0.out
 go_wp2
 refine bodyPost_ret (v := .tuple #[.agg #[.int .i64 0, .int .u64 0, .int .i64 0], .int .i64 5]) (by simp [results, Tryz.results164, go_sem, r0, r1, r2]) rfl ⟨rfl, ?_⟩
 iterate 3 refine Below.setCell ?_ (by simp <;> omega) _
 exact bel
set_option maxRecDepth 100000 in
theorem uM (ca ha la cb hb lb : Int) (sa sb t mode : Nat) (w : World) (da : IsD ca ha la) (db : IsD cb hb lb) (ia : InR ca) (ib : InR cb) (hsa : (sa : Int) ≤ 18) (hsb : (sb : Int) ≤ 18) (ht : (t : Int) ≤ 18) (hm : (mode : Int) ≤ 6) (h0 : ¬ cb = 0) (hr : ((rquo ((decide (ca < 0)) != (decide (cb < 0))) ca.natAbs cb.natAbs ((t : Int) + sb - sa) mode : Nat) : Int) < M127) :
  Calls Tryz.prog 164 #[.agg #[.int .i64 ha, .int .u64 la, .int .i64 sa], .agg #[.int .i64 hb, .int .u64 lb, .int .i64 sb], .int .i64 t, .int .i64 mode] w
   fun e w' => e = .returned (.tuple #[.agg #[.int .i64 (dhi (sv ((decide (ca < 0)) != (decide (cb < 0))) (rquo ((decide (ca < 0)) != (decide (cb < 0))) ca.natAbs cb.natAbs ((t : Int) + sb - sa) mode))), .int .u64 (dlo (sv ((decide (ca < 0)) != (decide (cb < 0))) (rquo ((decide (ca < 0)) != (decide (cb < 0))) ca.natAbs cb.natAbs ((t : Int) + sb - sa) mode))), .int .i64 t], .int .i64 0]) ∧ Below w.heap.size w w' := by
 obtain ⟨rfl, rfl⟩ := da
 obtain ⟨rfl, rfl⟩ := db
 have H0 : Hid ((sgn (sv (decide (cb < 0)) cb.natAbs) == 0) = false) := by show _ = false; rw [hJ, beq_eq_false_iff_ne]; exact fun e => h0 ((kp cb).1 e)
 obtain ⟨hn5, hd0, hd5, hq5⟩ := lD (ca := ca) (cb := cb) (sa := sa) (sb := sb) (t := t) (mode := mode) ((decide (ca < 0)) != (decide (cb < 0))) ia ib hsa hsb ht h0
 have HN5 : Hid _ := hn5
 have HD0 : Hid _ := hd0
 have HD5 : Hid _ := hd5
 have HQ5 : Hid _ := hq5
 have HR : Hid _ := hr
 clear h0 hn5 hd0 hd5 hq5 hr
 go_enter Tryz.func164, Tryz.ntmps164
 go_wp2_with (first | (go_at_call 63; refine (cX _ _ _ (by omega) ht hm).mono ?_; rintro e w1 ⟨rfl, rfl⟩) | (go_at_call 57; refine (dT ca _ _ cb _ _ sa sb _ (IsD.self _) (IsD.self _) ia ib hsa hsb).mono ?_; rintro e w1 ⟨rfl, hb1⟩; obtain ⟨x, rfl⟩ := a9 hb1; clear hb1))
 refine wp_region_any (by kernel_rfl) ?_
 refine eV (done := #[true, true, true, true, false, false, false, false]) 6 [] [0, 1, 2, 3] 4 5 _ _ (.cells #[.bool false, .int .u64 0, .int .u64 0, .int .u64 0, .int .u64 0, .int .u64 0] 125) (.cells #[.bool false, .int .u64 0, .int .u64 0, .int .u64 0, .int .u64 0, .int .u64 0] 125) (by kernel_rfl) (by kernel_rfl) rfl rfl (by kernel_rfl) (by simp) (fun _ _ => ⟨rfl, rfl⟩) (fun _ _ => ⟨rfl, rfl⟩) (by kernel_rfl) (by kernel_rfl) rfl ?_ (cA _)
 iterate 1 (refine aF (fun K hK => ?_); go_simp; refine hK _ ?_; clear hK K)
 refine aF (fun K hK => ?_)
 go_simp
 apply Exists.intro
 refine ⟨fun xq => ?_, hK _ ?_⟩
 ·exact bg ca _ _ _ _ (IsD.self _) ia
 clear hK K
 iterate 1 (refine aF (fun K hK => ?_); go_simp; refine hK _ ?_; clear hK K)
 refine aF (fun K hK => ?_)
 go_simp
 apply Exists.intro
 refine ⟨fun xq => ?_, hK _ ?_⟩
 ·exact bg cb _ _ _ _ (IsD.self _) ib
 clear hK K
 refine cZ ?_
 intro b1 b2 w3 hl h1 h2 hne hO1 hO2
 have T := lO (w := w) (ca := ca) (cb := cb) (sa := sa) (sb := sb) (by rw [bn]; simp <;> omega) (by constructor <;> simp [go_sem]) (by constructor <;> simp [go_sem]) (by constructor <;> simp [go_sem]) (by repeat (first | exact Below.refl _ _ | refine Below.drew ?_ | refine below_drewN ?_ _ | refine ac ?_ _ | refine ae ?_ _ | (refine Below.setCell ?_ ?_ _; rotate_left; (simp <;> omega)))) hl h1 h2 hne hO1 hO2
 have q1 := fun i => aY hO1 i
 have q2 := fun i => aY hO2 i
 have g1 := fun i => b8 hO1 i
 have g2 := fun i => b8 hO2 i
 have hne' : ¬ b1 = b2 := hne
 have hne2 : ¬ b2 = b1 := fun e => hne e.symm
 clear hl h1 h2 hne hO1 hO2
 simp only [List.drop_succ_cons, List.drop_zero]
 go_wp2_with fail
 rw [show ((((((((((((w3.setCell ⟨b1, 0, none⟩ (.bool (decide (ca < 0)))).setCell ⟨b1, 1, none⟩ (.int .u64 (wd (ca.natAbs) 0))).setCell ⟨b1, 2, none⟩ (.int .u64 (wd (ca.natAbs) 1))).setCell ⟨b1, 3, none⟩ (.int .u64 (wd (ca.natAbs) 2))).setCell ⟨b1, 4, none⟩ (.int .u64 (wd (ca.natAbs) 3))).setCell ⟨b1, 5, none⟩ (.int .u64 (wd (ca.natAbs) 4))).setCell ⟨b2, 0, none⟩ (.bool (decide (cb < 0)))).setCell ⟨b2, 1, none⟩ (.int .u64 (wd (cb.natAbs) 0))).setCell ⟨b2, 2, none⟩ (.int .u64 (wd (cb.natAbs) 1))).setCell ⟨b2, 3, none⟩ (.int .u64 (wd (cb.natAbs) 2))).setCell ⟨b2, 4, none⟩ (.int .u64 (wd (cb.natAbs) 3))).setCell ⟨b2, 5, none⟩ (.int .u64 (wd (cb.natAbs) 4))) = set6 (set6 w3 b1 (decide (ca < 0)) ca.natAbs) b2 (decide (cb < 0)) cb.natAbs from rfl]
 generalize set6 (set6 w3 b1 (decide (ca < 0)) ca.natAbs) b2 (decide (cb < 0)) cb.natAbs = w4 at *
 clear q1 q2 g1 g2
 refine (fm (decide (cb < 0)) cb.natAbs w4 (iW ib)).mono ?_
 rintro e w5 ⟨rfl, hb5⟩
 obtain ⟨⟨a0, a1, a2, -, -, -⟩, ⟨c0, c1, c2, -, -, -⟩, ⟨r0, r1, r2, f0, f1, f2⟩, ⟨x0, x1, x2, x3, x4, x5⟩, ⟨y0, y1, y2, y3, y4, y5⟩, n1, n2, s1, s2, bel⟩ := T.step hb5
 clear T hb5
 have p0 : w.heap.size < w5.heap.size := by omega
 have p1 : w.heap.size + 1 < w5.heap.size := by omega
 have p2 : w.heap.size + 1 + 1 < w5.heap.size := by omega
 have H0' := H0.out
 clear hne' hne2
 go_wp2_with (first | (go_at_call 65; refine (fD ((decide (ca < 0)) != (decide (cb < 0))) ca.natAbs cb.natAbs mode _ _ _ _ _ _ _ (IsW.self _) (by omega) HN5.out HD0.out HD5.out (by omega) (by omega)).mono ?_; rintro e w1 ⟨rfl, hb1⟩; obtain ⟨z, rfl⟩ := a9 hb1; clear hb1) | (go_at_call 59; refine (gy _ _ _ _ HQ5.out HR.out).mono ?_; rintro e w1 ⟨rfl, hb1⟩; obtain ⟨v, rfl⟩ := a9 hb1; clear hb1))
 refine bodyPost_ret (v := .tuple #[.agg #[.int .i64 (dhi (sv ((decide (ca < 0)) != (decide (cb < 0))) (rquo ((decide (ca < 0)) != (decide (cb < 0))) ca.natAbs cb.natAbs ((t : Int) + sb - sa) mode))), .int .u64 (dlo (sv ((decide (ca < 0)) != (decide (cb < 0))) (rquo ((decide (ca < 0)) != (decide (cb < 0))) ca.natAbs cb.natAbs ((t : Int) + sb - sa) mode))), .int .i64 t], .int .i64 0]) (by simp [results, Tryz.results164, go_sem, r0, r1, r2, p1, p2]) rfl ⟨rfl, ?_⟩
 refine ae (ac ?_ _) _
 iterate 3 refine Below.setCell ?_ (by simp <;> omega) _
 exact bel
end Go.Proofs.YtjkiplndbcmmbaaGreatDoor
namespace Go.Proofs.YtjkiplndbcmmbaaGreatDoor
open Go.RowKit
attribute [local go_sem] au ao av aj ag ak aJ aA aB aC aS aT aU aV aW
theorem lG {c : Int} {s t mode : Nat} (neg : Bool) (ic : InR c) (hs : (s : Int) ≤ 18) (ht : (t : Int) ≤ 18) :
  rnum c.natAbs ((t : Int) - s) < B ^ 5 ∧ 0 < rden 1 ((t : Int) - s) ∧ 2 * rden 1 ((t : Int) - s) ≤ B ^ 5 ∧ rquo neg c.natAbs 1 ((t : Int) - s) mode < B ^ 5 := by
 have e1 : rnum c.natAbs ((t : Int) - s) ≤ 2 ^ 127 * 10 ^ 18 := by
  unfold rnum; exact Nat.mul_le_mul (Nat.le_of_lt (bw ic)) (fi (by omega))
 have e2 : rden 1 ((t : Int) - s) ≤ 1 * 10 ^ 18 := by
  unfold rden; exact Nat.mul_le_mul (Nat.le_refl _) (fi (by omega))
 refine ⟨Nat.lt_of_le_of_lt e1 (by decide), ?_, Nat.le_trans (Nat.mul_le_mul_left 2 e2) (by decide), ?_⟩
 ·unfold rden; exact Nat.mul_pos (by omega) (Nat.pow_pos (by decide))
 ·exact Nat.lt_of_le_of_lt (Nat.le_trans (jm _ _ _ _ _) (Nat.add_le_add_right e1 1)) (by decide)
set_option maxRecDepth 100000 in
theorem lH (c h l : Int) (s t mode : Nat) (w : World) (hd : IsD c h l) (ic : InR c) (hs : (s : Int) ≤ 18) (ht : (t : Int) ≤ 18) (hm : (mode : Int) ≤ 6) (hr : ((rquo (decide (c < 0)) c.natAbs 1 ((t : Int) - s) mode : Nat) : Int) < M127) :
  Calls Tryz.prog 35 #[.agg #[.int .i64 h, .int .u64 l, .int .i64 s], .int .i64 t, .int .i64 mode] w
   fun e w' => e = .returned (.tuple #[.agg #[.int .i64 (dhi (sv (decide (c < 0)) (rquo (decide (c < 0)) c.natAbs 1 ((t : Int) - s) mode))), .int .u64 (dlo (sv (decide (c < 0)) (rquo (decide (c < 0)) c.natAbs 1 ((t : Int) - s) mode))), .int .i64 t], .int .i64 0]) ∧ Below w.heap.size w w' := by
 obtain ⟨rfl, rfl⟩ := hd
 obtain ⟨hn5, hd0, hd5, hq5⟩ := lG (c := c) (s := s) (t := t) (mode := mode) (decide (c < 0)) ic hs ht
 have HN5 : Hid _ := hn5
 have HD0 : Hid _ := hd0
 have HD5 : Hid _ := hd5
 have HQ5 : Hid _ := hq5
 have HR : Hid _ := hr
 have ew : IntKind.i64.wrap ((t : Int) - (s : Int)) = (t : Int) - (s : Int) := by rw [IntKind.wrap_i64]; omega
 clear hn5 hd0 hd5 hq5 hr
 go_enter Tryz.func35, Tryz.ntmps35
 go_wp2_with (first | (go_at_call 63; refine (cX _ _ _ (by omega) ht hm).mono ?_; rintro e w1 ⟨rfl, rfl⟩) | (go_at_call 64; refine (cO c _ _ s _ (IsD.self _) ic hs).mono ?_; rintro e w1 ⟨rfl, hb1⟩; obtain ⟨x, rfl⟩ := a9 hb1; clear hb1))
 refine bi 13 (by kernel_rfl) (by kernel_rfl) ?_
 iterate 1 (refine wpQuiet_step (fun K hK => ?_); go_simp; refine hK _ ?_; clear hK K)
 refine wpQuiet_step (fun K hK => ?_)
 go_simp
 apply Exists.intro
 refine ⟨fun xq => ?_, hK _ ?_⟩
 ·exact aR (bg c _ _ _ _ (IsD.self _) ic)
 clear hK K
 iterate 6 (refine wpQuiet_step (fun K hK => ?_); go_simp; refine hK _ ?_; clear hK K)
 refine wpQuiet_step (fun K hK => ?_)
 go_simp
 apply Exists.intro
 refine ⟨fun xq => ?_, hK _ ?_⟩
 ·exact aR (fD (decide (c < 0)) c.natAbs 1 mode _ _ _ _ _ _ _ ek (by omega) HN5.out HD0.out HD5.out (by omega) (by omega))
 clear hK K
 iterate 1 (refine wpQuiet_step (fun K hK => ?_); go_simp; refine hK _ ?_; clear hK K)
 refine wpQuiet_step (fun K hK => ?_)
 go_simp
 apply Exists.intro
 refine ⟨fun xq => ?_, hK _ ?_⟩
 ·exact aR (gy _ _ _ _ HQ5.out HR.out)
 clear hK K
 iterate 2 (refine wpQuiet_step (fun K hK => ?_); go_simp; refine hK _ ?_; clear hK K)
 refine wpQuiet_nil ?_
 intro xq
 simp only [List.drop_succ_cons, List.drop_zero]
 go_wp2
 refine bodyPost_ret (v := .tuple #[.agg #[.int .i64 (dhi (sv (decide (c < 0)) (rquo (decide (c < 0)) c.natAbs 1 ((t : Int) - s) mode))), .int .u64 (dlo (sv (decide (c < 0)) (rquo (decide (c < 0)) c.natAbs 1 ((t : Int) - s) mode))), .int .i64 t], .int .i64 0]) (by simp [results, Tryz.results35, go_sem]) rfl ⟨rfl, ?_⟩
 repeat (first | exact Below.refl _ _ | refine Below.drew ?_ | refine below_drewN ?_ _ | refine ac ?_ _ | refine ae ?_ _ | (refine Below.setCell ?_ ?_ _; rotate_left; (simp <;> omega)))
end Go.Proofs.YtjkiplndbcmmbaaGreatDoor
namespace Go.Proofs.YtjkiplndbcmmbaaGreatDoor
open Go.RowKit
attribute [local go_sem] au ao av aj ag ak aJ aA aB aC aS aT aU aV aW eZ
theorem lz {ca cb : Int} {sa sb t mode : Nat} (neg : Bool) (ia : InR ca) (ib : InR cb) (hsa : (sa : Int) ≤ 18) (hsb : (sb : Int) ≤ 18) (ht : (t : Int) ≤ 18) :
  rnum (ca.natAbs * cb.natAbs) ((t : Int) - sa - sb) < B ^ 5 ∧ 0 < rden 1 ((t : Int) - sa - sb) ∧ 2 * rden 1 ((t : Int) - sa - sb) ≤ B ^ 5 ∧ rquo neg (ca.natAbs * cb.natAbs) 1 ((t : Int) - sa - sb) mode < B ^ 5 := by
 have e1 : rnum (ca.natAbs * cb.natAbs) ((t : Int) - sa - sb) ≤ 2 ^ 127 * 2 ^ 127 * 10 ^ 18 := by
  unfold rnum; exact Nat.mul_le_mul (Nat.mul_le_mul (Nat.le_of_lt (bw ia)) (Nat.le_of_lt (bw ib))) (fi (by omega))
 have e2 : rden 1 ((t : Int) - sa - sb) ≤ 1 * 10 ^ 36 := by
  unfold rden; exact Nat.mul_le_mul (Nat.le_refl _) (kd (by omega))
 refine ⟨Nat.lt_of_le_of_lt e1 (by decide), ?_, Nat.le_trans (Nat.mul_le_mul_left 2 e2) (by decide), ?_⟩
 ·unfold rden; exact Nat.mul_pos (by omega) (Nat.pow_pos (by decide))
 ·exact Nat.lt_of_le_of_lt (Nat.le_trans (jm _ _ _ _ _) (Nat.add_le_add_right e1 1)) (by decide)
theorem pp (n : Int) (h1 : -9223372036854775808 ≤ n) (h2 : n ≤ 9223372036854775807) : n / 9223372036854775808 = dhi n ∧ IntKind.u64.wrap n = dlo n := by
 rw [IntKind.wrap_u64]; unfold dhi dlo; omega
set_option maxRecDepth 100000 in
theorem t8 (n : Int) (s : Nat) (w : World) (h1 : -9223372036854775808 ≤ n) (h2 : n ≤ 9223372036854775807) (hs : (s : Int) ≤ 18) :
  Calls Tryz.prog 160 #[.int .i64 n, .int .i64 s] w
   fun e w' => e = .returned (.tuple #[.agg #[.int .i64 (dhi n), .int .u64 (dlo n), .int .i64 s], .int .i64 0]) ∧ Below w.heap.size w w' := by
 obtain ⟨e1, e2⟩ := pp n h1 h2
 rw [← e1, ← e2]
 clear e1 e2
 go_enter Tryz.func160, Tryz.ntmps160
 go_wp2_with (go_at_call 98; refine (bJ _ _ (by omega) hs).mono ?_; rintro e w' ⟨rfl, rfl⟩)
 refine bodyPost_ret (v := .tuple #[.agg _, .int .i64 0]) (by simp [results, Tryz.results160, go_sem]) rfl ⟨rfl, ?_⟩
 repeat (first | exact Below.refl _ _ | refine Below.drew ?_ | refine below_drewN ?_ _ | refine ac ?_ _ | refine ae ?_ _ | (refine Below.setCell ?_ ?_ _; rotate_left; (simp <;> omega)))
set_option maxRecDepth 100000 in
theorem uD (ca ha la cb hb lb : Int) (sa sb t mode : Nat) (w : World) (da : IsD ca ha la) (db : IsD cb hb lb) (ia : InR ca) (ib : InR cb) (hsa : (sa : Int) ≤ 18) (hsb : (sb : Int) ≤ 18) (ht : (t : Int) ≤ 18) (hm : (mode : Int) ≤ 6) (hr : ((rquo ((decide (ca < 0)) != (decide (cb < 0))) (ca.natAbs * cb.natAbs) 1 ((t : Int) - sa - sb) mode : Nat) : Int) < M127) :
  Calls Tryz.prog 161 #[.agg #[.int .i64 ha, .int .u64 la, .int .i64 sa], .agg #[.int .i64 hb, .int .u64 lb, .int .i64 sb], .int .i64 t, .int .i64 mode] w
   fun e w' => e = .returned (.tuple #[.agg #[.int .i64 (dhi (sv ((decide (ca < 0)) != (decide (cb < 0))) (rquo ((decide (ca < 0)) != (decide (cb < 0))) (ca.natAbs * cb.natAbs) 1 ((t : Int) - sa - sb) mode))), .int .u64 (dlo (sv ((decide (ca < 0)) != (decide (cb < 0))) (rquo ((decide (ca < 0)) != (decide (cb < 0))) (ca.natAbs * cb.natAbs) 1 ((t : Int) - sa - sb) mode))), .int .i64 t], .int .i64 0]) ∧ Below w.heap.size w w' := by
 obtain ⟨rfl, rfl⟩ := da
 obtain ⟨rfl, rfl⟩ := db
 obtain ⟨hn5, hd0, hd5, hq5⟩ := lz (ca := ca) (cb := cb) (sa := sa) (sb := sb) (t := t) (mode := mode) ((decide (ca < 0)) != (decide (cb < 0))) ia ib hsa hsb ht
 have HN5 : Hid _ := hn5
 have HD0 : Hid _ := hd0
 have HD5 : Hid _ := hd5
 have HQ5 : Hid _ := hq5
 have HR : Hid _ := hr
 clear hn5 hd0 hd5 hq5 hr
 go_enter Tryz.func161, Tryz.ntmps161
 go_wp2_with (first | (go_at_call 63; refine (cX _ _ _ (by omega) ht hm).mono ?_; rintro e w1 ⟨rfl, rfl⟩) | (go_at_call 57; refine (dT ca _ _ cb _ _ sa sb _ (IsD.self _) (IsD.self _) ia ib hsa hsb).mono ?_; rintro e w1 ⟨rfl, hb1⟩; obtain ⟨x, rfl⟩ := a9 hb1; clear hb1))
 refine wp_region_any (by kernel_rfl) ?_
 refine eV (done := #[true, true, true, true, false, false, false, false]) 6 [] [0, 1, 2, 3] 4 5 _ _ (.cells #[.bool false, .int .u64 0, .int .u64 0, .int .u64 0, .int .u64 0, .int .u64 0] 125) (.cells #[.bool false, .int .u64 0, .int .u64 0, .int .u64 0, .int .u64 0, .int .u64 0] 125) (by kernel_rfl) (by kernel_rfl) rfl rfl (by kernel_rfl) (by simp) (fun _ _ => ⟨rfl, rfl⟩) (fun _ _ => ⟨rfl, rfl⟩) (by kernel_rfl) (by kernel_rfl) rfl ?_ (cA _)
 iterate 1 (refine aF (fun K hK => ?_); go_simp; refine hK _ ?_; clear hK K)
 refine aF (fun K hK => ?_)
 go_simp
 apply Exists.intro
 refine ⟨fun xq => ?_, hK _ ?_⟩
 ·exact bg ca _ _ _ _ (IsD.self _) ia
 clear hK K
 iterate 1 (refine aF (fun K hK => ?_); go_simp; refine hK _ ?_; clear hK K)
 refine aF (fun K hK => ?_)
 go_simp
 apply Exists.intro
 refine ⟨fun xq => ?_, hK _ ?_⟩
 ·exact bg cb _ _ _ _ (IsD.self _) ib
 clear hK K
 refine cZ ?_
 intro b1 b2 w3 hl h1 h2 hne hO1 hO2
 have T := lO (w := w) (ca := ca) (cb := cb) (sa := sa) (sb := sb) (by rw [bn]; simp <;> omega) (by constructor <;> simp [go_sem]) (by constructor <;> simp [go_sem]) (by constructor <;> simp [go_sem]) (by repeat (first | exact Below.refl _ _ | refine Below.drew ?_ | refine below_drewN ?_ _ | refine ac ?_ _ | refine ae ?_ _ | (refine Below.setCell ?_ ?_ _; rotate_left; (simp <;> omega)))) hl h1 h2 hne hO1 hO2
 have q1 := fun i => aY hO1 i
 have q2 := fun i => aY hO2 i
 have g1 := fun i => b8 hO1 i
 have g2 := fun i => b8 hO2 i
 have hne' : ¬ b1 = b2 := hne
 have hne2 : ¬ b2 = b1 := fun e => hne e.symm
 clear hl h1 h2 hne hO1 hO2
 simp only [List.drop_succ_cons, List.drop_zero]
 go_wp2
 rw [show ((((((((((((w3.setCell ⟨b1, 0, none⟩ (.bool (decide (ca < 0)))).setCell ⟨b1, 1, none⟩ (.int .u64 (wd (ca.natAbs) 0))).setCell ⟨b1, 2, none⟩ (.int .u64 (wd (ca.natAbs) 1))).setCell ⟨b1, 3, none⟩ (.int .u64 (wd (ca.natAbs) 2))).setCell ⟨b1, 4, none⟩ (.int .u64 (wd (ca.natAbs) 3))).setCell ⟨b1, 5, none⟩ (.int .u64 (wd (ca.natAbs) 4))).setCell ⟨b2, 0, none⟩ (.bool (decide (cb < 0)))).setCell ⟨b2, 1, none⟩ (.int .u64 (wd (cb.natAbs) 0))).setCell ⟨b2, 2, none⟩ (.int .u64 (wd (cb.natAbs) 1))).setCell ⟨b2, 3, none⟩ (.int .u64 (wd (cb.natAbs) 2))).setCell ⟨b2, 4, none⟩ (.int .u64 (wd (cb.natAbs) 3))).setCell ⟨b2, 5, none⟩ (.int .u64 (wd (cb.natAbs) 4))) = set6 (set6 w3 b1 (decide (ca < 0)) ca.natAbs) b2 (decide (cb < 0)) cb.natAbs from rfl]
 generalize set6 (set6 w3 b1 (decide (ca < 0)) ca.natAbs) b2 (decide (cb < 0)) cb.natAbs = w5 at *
 clear q1 q2 g1 g2 hne' hne2
 have T' := T
 obtain ⟨⟨a0, a1, a2, -, -, -⟩, ⟨c0, c1, c2, -, -, -⟩, ⟨r0, r1, r2, f0, f1, f2⟩, ⟨x0, x1, x2, x3, x4, x5⟩, ⟨y0, y1, y2, y3, y4, y5⟩, n1, n2, s1, s2, bel⟩ := T'
 refine wp_region_any (by kernel_rfl) ?_
 refine lR (done := #[true, true, true, true, true, true, true, true, true, true, true, false, false]) 12 [] [0, 1, 2, 3, 4, 5, 6, 7, 8, 9, 10] 11 _ (.cells #[.bool false, .int .u64 0, .int .u64 0, .int .u64 0, .int .u64 0, .int .u64 0] 125) (by kernel_rfl) (by kernel_rfl) rfl (by kernel_rfl) (fun _ _ => ⟨rfl, rfl⟩) (by kernel_rfl) (by kernel_rfl) rfl ?_ (cA _)
 iterate 9 (refine aF (fun K hK => ?_); go_simp; refine hK _ ?_; clear hK K)
 refine aF (fun K hK => ?_)
 go_simp
 apply Exists.intro
 refine ⟨fun xq => ?_, hK _ ?_⟩
 ·exact nQ ca.natAbs cb.natAbs _ _ _ _ _ _ _ _ _ _ _ (IsW.self _) (IsW.self _) (iW ib)
 clear hK K
 iterate 1 (refine aF (fun K hK => ?_); go_simp; refine hK _ ?_; clear hK K)
 refine cZ ?_
 intro b3 w6 hl h3 hO3
 have T6 := T.step hl
 have q3 := fun i => aY hO3 i
 have g3 := fun i => b8 hO3 i
 have s3 := dM hO3
 clear T a0 a1 a2 c0 c1 c2 r0 r1 r2 f0 f1 f2 x0 x1 x2 x3 x4 x5 y0 y1 y2 y3 y4 y5 bel hl hO3
 obtain ⟨⟨a0, a1, a2, -, -, -⟩, ⟨c0, c1, c2, -, -, -⟩, ⟨r0, r1, r2, f0, f1, f2⟩, -, -, -, -, s1, s2, bel⟩ := T6
 have p0 : w.heap.size < w6.heap.size := by omega
 have p1 : w.heap.size + 1 < w6.heap.size := by omega
 have p2 : w.heap.size + 1 + 1 < w6.heap.size := by omega
 have m0 : ¬ b3 = w.heap.size := by omega
 have m1 : ¬ b3 = w.heap.size + 1 := by omega
 have m2 : ¬ b3 = w.heap.size + 1 + 1 := by omega
 have h3' : w.heap.size ≤ b3 := by omega
 simp only [List.drop_succ_cons, List.drop_zero]
 clear h3 n1 n2 s1 s2
 go_wp2_with (first | (go_at_call 65; refine (fD ((decide (ca < 0)) != (decide (cb < 0))) (ca.natAbs * cb.natAbs) 1 mode _ _ _ _ _ _ _ ek (by omega) HN5.out HD0.out HD5.out (by omega) (by omega)).mono ?_; rintro e w1 ⟨rfl, hb1⟩; obtain ⟨z, rfl⟩ := a9 hb1; clear hb1) | (go_at_call 59; refine (gy _ _ _ _ HQ5.out HR.out).mono ?_; rintro e w1 ⟨rfl, hb1⟩; obtain ⟨v, rfl⟩ := a9 hb1; clear hb1))
 refine bodyPost_ret (v := .tuple #[.agg #[.int .i64 (dhi (sv ((decide (ca < 0)) != (decide (cb < 0))) (rquo ((decide (ca < 0)) != (decide (cb < 0))) (ca.natAbs * cb.natAbs) 1 ((t : Int) - sa - sb) mode))), .int .u64 (dlo (sv ((decide (ca < 0)) != (decide (cb < 0))) (rquo ((decide (ca < 0)) != (decide (cb < 0))) (ca.natAbs * cb.natAbs) 1 ((t : Int) - sa - sb) mode))), .int .i64 t], .int .i64 0]) (by simp [results, Tryz.results161, go_sem, r0, r1, r2, p2]) rfl ⟨rfl, ?_⟩
 refine ae ?_ _
 iterate 3 refine Below.setCell ?_ (by simp <;> omega) _
 iterate 6 refine Below.setCell ?_ h3' _
 exact bel
end Go.Proofs.YtjkiplndbcmmbaaGreatDoor
namespace Go.Proofs.YtjkiplndbcmmbaaGreatDoor
open Go.RowKit
attribute [local go_sem] au ao av aj ag ak aJ aA aB aC aS aT aU aV aW
structure At3 (w : World) (b : Nat) (x y z : Value) : Prop where
 c0 : w.cell? ⟨b, 0, none⟩ = some x
 c1 : w.cell? ⟨b, 1, none⟩ = some y
 c2 : w.cell? ⟨b, 2, none⟩ = some z
 lt : b < w.heap.size
theorem At3.step {w w' : World} {b : Nat} {x y z : Value} (h : At3 w b x y z) (k : Below w.heap.size w w') : At3 w' b x y z :=
 ⟨by rw [k.cell h.lt]; exact h.c0, by rw [k.cell h.lt]; exact h.c1, by rw [k.cell h.lt]; exact h.c2, Nat.lt_of_lt_of_le h.lt k.size⟩
theorem At3.alloc {w : World} {b : Nat} {x y z : Value} (h : At3 w b x y z) (O : Obj) : At3 (w.alloc O) b x y z := h.step ((Below.refl _ _).alloc (Nat.le_refl _) O)
theorem du (w : World) (x y z : Value) (t : TypeId) : At3 (w.alloc (.cells #[x, y, z] t)) w.heap.size x y z := by
 constructor <;> simp [go_sem]
theorem aH {w w' : World} {O : Obj} (k : Below (w.alloc O).heap.size (w.alloc O) w') : Below w.heap.size w w' :=
 ((Below.refl _ _).alloc (Nat.le_refl _) O).trans (k.mono (by simp))
theorem ch {w : World} {b i : Nat} {c : Array Value} {t : TypeId} (h : w.heap[b]? = some (.cells c t)) (v : Value) : (w.setCell ⟨b, i, none⟩ v).heap[b]? = some (.cells (c.setIfInBounds i v) t) := by
 simp [World.setCell, Array.getElem?_modify, h]
theorem mz {w : World} {b : Nat} (h : w.heap[b]? = some (.cells #[.bool false, .int .u64 0, .int .u64 0, .int .u64 0, .int .u64 0, .int .u64 0] 125)) (neg : Bool) (n : Nat) :
  (set6 w b neg n).heap[b]? = some (.cells #[.bool neg, .int .u64 (wd n 0), .int .u64 (wd n 1), .int .u64 (wd n 2), .int .u64 (wd n 3), .int .u64 (wd n 4)] 125) :=
 ch (ch (ch (ch (ch (ch h _) _) _) _) _) _
set_option maxRecDepth 100000 in
theorem uU (ca ha la cb hb lb : Int) (sa sb : Nat) (w : World) (da : IsD ca ha la) (db : IsD cb hb lb) (ia : InR ca) (ib : InR cb) (hsa : (sa : Int) ≤ 18) (hsb : (sb : Int) ≤ 18) (hr : ((tot ca sa (-cb) sb).2 : Int) < M127) :
  Calls Tryz.prog 163 #[.agg #[.int .i64 ha, .int .u64 la, .int .i64 sa], .agg #[.int .i64 hb, .int .u64 lb, .int .i64 sb]] w
   fun e w' => e = .returned (.tuple #[.agg #[.int .i64 (dhi (sv (tot ca sa (-cb) sb).1 (tot ca sa (-cb) sb).2)), .int .u64 (dlo (sv (tot ca sa (-cb) sb).1 (tot ca sa (-cb) sb).2)), .int .i64 ((max sa sb : Nat) : Int)], .int .i64 0]) ∧ Below w.heap.size w w' := by
 have HR : Hid (((tot ca sa (-cb) sb).2 : Int) < M127) := hr
 clear hr
 obtain ⟨rfl, rfl⟩ := da
 obtain ⟨rfl, rfl⟩ := db
 have n5 : (tot ca sa (-cb) sb).2 < B ^ 5 := lM _ _ _ _ ia (InR.neg ib) hsa hsb
 have N5 : Hid _ := n5
 clear n5
 go_enter Tryz.func163, Tryz.ntmps163
 go_wp2_with (go_at_call 57; refine (dT ca _ _ cb _ _ sa sb _ (IsD.self _) (IsD.self _) ia ib hsa hsb).mono ?_; rintro e w1 ⟨rfl, hb1⟩; obtain ⟨x, rfl⟩ := a9 hb1; clear hb1)
 refine eG (done := #[true, true, true, true, true, true, true, false, false, false]) (all := #[true, true, true, true, true, true, true, true, true, true]) [0, 1, 2, 3, 4, 5, 6] [9] 7 8 _ _ (.cells #[.bool false, .int .u64 0, .int .u64 0, .int .u64 0, .int .u64 0, .int .u64 0] 125) (.cells #[.bool (tot ca sa (-cb) sb).1, .int .u64 (wd (tot ca sa (-cb) sb).2 0), .int .u64 (wd (tot ca sa (-cb) sb).2 1), .int .u64 (wd (tot ca sa (-cb) sb).2 2), .int .u64 (wd (tot ca sa (-cb) sb).2 3), .int .u64 (wd (tot ca sa (-cb) sb).2 4)] 125) (by kernel_rfl) (by kernel_rfl) (by kernel_rfl) (by kernel_rfl) rfl rfl (fun _ _ => ⟨rfl, rfl⟩) (by kernel_rfl) (by kernel_rfl) (by kernel_rfl) ?_
 iterate 2 (refine aF (fun K hK => ?_); go_simp; refine hK _ ?_; clear hK K)
 refine aF (fun K hK => ?_)
 go_simp
 apply Exists.intro
 refine ⟨fun xq => ?_, hK _ ?_⟩
 ·exact cg cb _ _ _ _ (IsD.self _) ib
 clear hK K
 refine aF (fun K hK => ?_)
 go_simp
 apply Exists.intro
 refine ⟨fun xq => ?_, hK _ ?_⟩
 ·exact fJ ca _ _ (-cb) _ _ sa sb _ (IsD.self _) (IsD.self _) ia (InR.neg ib) hsa hsb
 clear hK K
 iterate 3 (refine aF (fun K hK => ?_); go_simp; refine hK _ ?_; clear hK K)
 refine cZ ?_
 intro b hb
 refine ⟨⟨rfl, rfl, fun w2 hl hO => ⟨set6 w2 b (tot ca sa (-cb) sb).1 (tot ca sa (-cb) sb).2, ?_, dG hl hb _ _, mz hO _ _⟩⟩, ?_⟩
 ·have q := fun i => aY hO i
  have g := fun i => b8 hO i
  go_simp
  rfl
 refine aF (fun K hK => ?_)
 go_simp
 refine hK _ ?_
 clear hK K
 refine cZ ?_
 intro w3 hl hO
 have q := fun i => aY hO i
 have hlt := dM hO
 have R := (show Dec3 _ (w.heap.size + 1 + 1) 0 0 0 by constructor <;> simp [go_sem]).keep (hl.block (w.heap.size + 1 + 1) (by rw [bn]; simp <;> omega))
 obtain ⟨r0, r1, r2, f0, f1, f2⟩ := R
 have hb' : ¬ b = w.heap.size + 1 + 1 := by rw [bn] at hb; simp at hb; omega
 have hb2 : w.heap.size + 1 + 1 < w3.heap.size := by rw [bn] at hb; simp at hb; omega
 have bel0 : Below w.heap.size w w3 := Below.trans (b := _) (by repeat (first | exact Below.refl _ _ | refine Below.drew ?_ | refine below_drewN ?_ _ | refine ac ?_ _ | refine ae ?_ _ | (refine Below.setCell ?_ ?_ _; rotate_left; (simp <;> omega)))) (Below.mono hl (by rw [bn]; simp <;> omega))
 clear hO hl hb

 go_wp2_with (go_at_call 59; refine (gy _ _ _ _ N5.out HR.out).mono ?_; rintro e w1 ⟨rfl, hb1⟩; obtain ⟨v, rfl⟩ := a9 hb1; clear hb1)
 refine bodyPost_ret (v := .tuple #[.agg #[.int .i64 (dhi (sv (tot ca sa (-cb) sb).1 (tot ca sa (-cb) sb).2)), .int .u64 (dlo (sv (tot ca sa (-cb) sb).1 (tot ca sa (-cb) sb).2)), .int .i64 ((max sa sb : Nat) : Int)], .int .i64 0]) (by simp [results, Tryz.results163, go_sem, r0, r1, r2, hb2]) rfl ⟨rfl, ?_⟩
 refine ae ?_ _
 iterate 3 refine Below.setCell ?_ (by simp <;> omega) _
 exact bel0
set_option maxRecDepth 100000 in
theorem tU (ca ha la cb hb lb : Int) (sa sb : Nat) (w : World) (da : IsD ca ha la) (db : IsD cb hb lb) (ia : InR ca) (ib : InR cb) (hsa : (sa : Int) ≤ 18) (hsb : (sb : Int) ≤ 18) :
  Calls Tryz.prog 36 #[.agg #[.int .i64 ha, .int .u64 la, .int .i64 sa], .agg #[.int .i64 hb, .int .u64 lb, .int .i64 sb]] w
   fun e w' => e = .returned (.tuple #[.int .i64 (sgn (sv (tot ca sa (-cb) sb).1 (tot ca sa (-cb) sb).2)), .int .i64 0]) ∧ Below w.heap.size w w' := by
 obtain ⟨rfl, rfl⟩ := da
 obtain ⟨rfl, rfl⟩ := db
 have n5 : (tot ca sa (-cb) sb).2 < B ^ 5 := lM _ _ _ _ ia (InR.neg ib) hsa hsb
 have N5 : Hid _ := n5
 clear n5
 go_enter Tryz.func36, Tryz.ntmps36
 go_wp2_with (go_at_call 57; refine (dT ca _ _ cb _ _ sa sb _ (IsD.self _) (IsD.self _) ia ib hsa hsb).mono ?_; rintro e w1 ⟨rfl, hb1⟩; obtain ⟨x, rfl⟩ := a9 hb1; clear hb1)
 refine eG (done := #[true, true, true, true, true, true, true, false, false, false]) (all := #[true, true, true, true, true, true, true, true, true, true]) [0, 1, 2, 3, 4, 5, 6] [9] 7 8 _ _ (.cells #[.bool false, .int .u64 0, .int .u64 0, .int .u64 0, .int .u64 0, .int .u64 0] 125) (.cells #[.bool (tot ca sa (-cb) sb).1, .int .u64 (wd (tot ca sa (-cb) sb).2 0), .int .u64 (wd (tot ca sa (-cb) sb).2 1), .int .u64 (wd (tot ca sa (-cb) sb).2 2), .int .u64 (wd (tot ca sa (-cb) sb).2 3), .int .u64 (wd (tot ca sa (-cb) sb).2 4)] 125) (by kernel_rfl) (by kernel_rfl) (by kernel_rfl) (by kernel_rfl) rfl rfl (fun _ _ => ⟨rfl, rfl⟩) (by kernel_rfl) (by kernel_rfl) (by kernel_rfl) ?_
 iterate 2 (refine aF (fun K hK => ?_); go_simp; refine hK _ ?_; clear hK K)
 refine aF (fun K hK => ?_)
 go_simp
 apply Exists.intro
 refine ⟨fun xq => ?_, hK _ ?_⟩
 ·exact cg cb _ _ _ _ (IsD.self _) ib
 clear hK K
 refine aF (fun K hK => ?_)
 go_simp
 apply Exists.intro
 refine ⟨fun xq => ?_, hK _ ?_⟩
 ·exact fJ ca _ _ (-cb) _ _ sa sb _ (IsD.self _) (IsD.self _) ia (InR.neg ib) hsa hsb
 clear hK K
 iterate 3 (refine aF (fun K hK => ?_); go_simp; refine hK _ ?_; clear hK K)
 refine cZ ?_
 intro b hb
 refine ⟨⟨rfl, rfl, fun w2 hl hO => ⟨set6 w2 b (tot ca sa (-cb) sb).1 (tot ca sa (-cb) sb).2, ?_, dG hl hb _ _, mz hO _ _⟩⟩, ?_⟩
 ·have q := fun i => aY hO i
  have g := fun i => b8 hO i
  go_simp
  rfl
 refine aF (fun K hK => ?_)
 go_simp
 refine hK _ ?_
 clear hK K
 refine cZ ?_
 intro w3 hl hO
 have q := fun i => aY hO i
 have hlt := dM hO
 have bel0 : Below w.heap.size w w3 := Below.trans (b := _) (by repeat (first | exact Below.refl _ _ | refine Below.drew ?_ | refine below_drewN ?_ _ | refine ac ?_ _ | refine ae ?_ _ | (refine Below.setCell ?_ ?_ _; rotate_left; (simp <;> omega)))) (Below.mono hl (by rw [bn]; simp <;> omega))
 clear hO hl hb

 go_wp2_with (go_at_call 68; refine (fm _ _ _ N5.out).mono ?_; rintro e w1 ⟨rfl, hb1⟩; obtain ⟨v, rfl⟩ := a9 hb1; clear hb1)
 refine bodyPost_ret (v := .tuple #[.int .i64 (sgn (sv (tot ca sa (-cb) sb).1 (tot ca sa (-cb) sb).2)), .int .i64 0]) (by simp [results, Tryz.results36, go_sem]) rfl ⟨rfl, ?_⟩
 exact ae bel0 _
end Go.Proofs.YtjkiplndbcmmbaaGreatDoor