/- The contracts of ratio and of the checks (package dec). -/
import Derived.Test.YtcnigpkmedgbdaaDoorNe
namespace Go.Proofs.YtcnigpkmedgbdaaDoor
open Go.RowKit
set_option linter.unusedVariables false
attribute [local go_sem] ext_cell ext_frozen ext_drew ext_of_drew ext_of_drewN ext_setCell ext_lt ext_lt1 ext_lt2 ext_lt3 lt_n2 lt_n3 lt_n4 lt_n5 lt_n6 ext_ext

/-- What is divided, and by what. -/
def rnum (n : Nat) (shift : Int) : Nat := n * 10 ^ shift.toNat
def rden (d : Nat) (shift : Int) : Nat := d * 10 ^ (-shift).toNat
/-- The size of the rounded quotient. -/
def rquo (neg : Bool) (n d : Nat) (shift : Int) (mode : Nat) : Nat :=
  rnum n shift / rden d shift + (if away neg (rnum n shift / rden d shift) (rnum n shift % rden d shift) (rden d shift) mode then 1 else 0)

theorem one_words : IsW 1 1 0 0 0 0 := by
  have h := fun i (hi : 0 < i) => wd_high 1 i (by decide) hi
  exact ⟨by rw [wd_low 1 (by decide)]; rfl, by rw [h 1 (by decide)], by rw [h 2 (by decide)], by rw [h 3 (by decide)], by rw [h 4 (by decide)]⟩

theorem ratio_core (neg : Bool) (n d mode : Nat) (shift : Int) (w : World) (hm : mode ≤ 6) (hn : rnum n shift < B ^ 5) (hd : 0 < rden d shift) (hd5 : 2 * rden d shift ≤ B ^ 5) :
    ∃ q r : Nat, q = rnum n shift / rden d shift ∧ r = rnum n shift % rden d shift ∧ q < B ^ 5 ∧ 2 * r < B ^ 5 ∧ rden d shift < B ^ 5 := by
  refine ⟨_, _, rfl, rfl, Nat.lt_of_le_of_lt (Nat.div_le_self _ _) hn, ?_, by omega⟩
  have := Nat.mod_lt (rnum n shift) hd
  omega

set_option maxHeartbeats 1000000 in
set_option maxRecDepth 100000 in
theorem ratio_nf (neg : Bool) (n d mode : Nat) (b0 b1 b2 b3 b4 shift : Int) (w : World) (hdw : IsW d b0 b1 b2 b3 b4) (hm : mode ≤ 6) (hn : rnum n shift < B ^ 5) (hd : 0 < rden d shift) (hd5 : 2 * rden d shift ≤ B ^ 5) (hs : shift < 0) (hs1 : -1000 ≤ shift) (hs2 : shift ≤ 1000)
    (hw : away neg (rnum n shift / rden d shift) (rnum n shift % rden d shift) (rden d shift) mode = false) :
    Calls Tryd.prog 65 #[.agg #[.bool neg, .int .u64 (wd (n) 0), .int .u64 (wd (n) 1), .int .u64 (wd (n) 2), .int .u64 (wd (n) 3), .int .u64 (wd (n) 4)], .agg #[.int .u64 b0, .int .u64 b1, .int .u64 b2, .int .u64 b3, .int .u64 b4], .int .i64 shift, .int .i64 mode] w
      fun e w' => e = .returned (.agg #[.bool neg, .int .u64 (wd (rquo neg n d shift mode) 0), .int .u64 (wd (rquo neg n d shift mode) 1), .int .u64 (wd (rquo neg n d shift mode) 2), .int .u64 (wd (rquo neg n d shift mode) 3), .int .u64 (wd (rquo neg n d shift mode) 4)]) ∧ Below w.heap.size w w' := by
  obtain ⟨q, r, hq, hr, q5, r5, d5⟩ := ratio_core neg n d mode shift w hm hn hd hd5
  obtain ⟨u, hu⟩ : ∃ u, u = (-shift).toNat := ⟨_, rfl⟩
  have hu3 : u ≤ 1000 := by omega
  have eu : -shift = (u : Int) := by omega
  have hfin : rquo neg n d shift mode = q := by unfold rquo; rw [hw, ← hq]; simp
  rw [hfin]
  rw [← hq, ← hr] at hw
  have HD : Hid (∀ w : World, Calls Tryd.prog 80 #[.agg #[.int .u64 (wd (n) 0), .int .u64 (wd (n) 1), .int .u64 (wd (n) 2), .int .u64 (wd (n) 3), .int .u64 (wd (n) 4)], .agg #[.int .u64 (wd (d * 10 ^ u) 0), .int .u64 (wd (d * 10 ^ u) 1), .int .u64 (wd (d * 10 ^ u) 2), .int .u64 (wd (d * 10 ^ u) 3), .int .u64 (wd (d * 10 ^ u) 4)]] w fun e w' => e = .returned (.tuple #[.agg #[.int .u64 (wd (q) 0), .int .u64 (wd (q) 1), .int .u64 (wd (q) 2), .int .u64 (wd (q) 3), .int .u64 (wd (q) 4)], .agg #[.int .u64 (wd (r) 0), .int .u64 (wd (r) 1), .int .u64 (wd (r) 2), .int .u64 (wd (r) 3), .int .u64 (wd (r) 4)]]) ∧ Below w.heap.size w w') := by
    intro w
    rw [hq, hr]
    exact divided_any (rnum n shift) (rden d shift) _ _ _ _ _ _ _ _ _ _ w (by unfold rnum; rw [show shift.toNat = 0 by omega, Nat.pow_zero, Nat.mul_one]; exact IsW.self _) (by unfold rden; rw [← hu]; exact IsW.self _) hn hd hd5
  have HA : Hid (∀ w : World, Calls Tryd.prog 81 #[.bool neg, .agg #[.int .u64 (wd (q) 0), .int .u64 (wd (q) 1), .int .u64 (wd (q) 2), .int .u64 (wd (q) 3), .int .u64 (wd (q) 4)], .agg #[.int .u64 (wd (r) 0), .int .u64 (wd (r) 1), .int .u64 (wd (r) 2), .int .u64 (wd (r) 3), .int .u64 (wd (r) 4)], .agg #[.int .u64 (wd (d * 10 ^ u) 0), .int .u64 (wd (d * 10 ^ u) 1), .int .u64 (wd (d * 10 ^ u) 2), .int .u64 (wd (d * 10 ^ u) 3), .int .u64 (wd (d * 10 ^ u) 4)], .int .i64 mode] w fun e w' => e = .returned (.bool false) ∧ Below w.heap.size w w') := by
    intro w
    rw [← hw]
    exact away_any neg q r (rden d shift) mode _ _ _ _ _ _ _ _ _ _ _ _ _ _ _ w (IsW.self _) (IsW.self _) (by unfold rden; rw [← hu]; exact IsW.self _) q5 r5 d5 hm
  clear hw hfin hq hr hn hd hd5 hu
  go_enter Tryd.func65, Tryd.ntmps65
  go_wp2_with (first | (go_at_call 79; refine (ten_any d u _ _ _ _ _ _ hdw hu3).mono ?_; rintro e w1 ⟨rfl, hb1⟩; obtain ⟨x, rfl⟩ := ext_of_below hb1; clear hb1) | (go_at_call 80; refine (HD.out _).mono ?_; rintro e w1 ⟨rfl, hb1⟩; obtain ⟨y, rfl⟩ := ext_of_below hb1; clear hb1) | (go_at_call 81; refine (HA.out _).mono ?_; rintro e w1 ⟨rfl, hb1⟩; obtain ⟨z, rfl⟩ := ext_of_below hb1; clear hb1))
  refine bodyPost_ret (v := .agg _) (by simp [results, Tryd.results65, go_sem]) rfl ⟨rfl, ?_⟩
  repeat (first | exact Below.refl _ _ | refine Below.drew ?_ | refine below_drewN ?_ _ | refine bel_alloc ?_ _ | refine bel_ext ?_ _ | (refine Below.setCell ?_ ?_ _; rotate_left; (simp <;> omega)))

set_option maxHeartbeats 1000000 in
set_option maxRecDepth 100000 in
theorem ratio_nt (neg : Bool) (n d mode : Nat) (b0 b1 b2 b3 b4 shift : Int) (w : World) (hdw : IsW d b0 b1 b2 b3 b4) (hm : mode ≤ 6) (hn : rnum n shift < B ^ 5) (hd : 0 < rden d shift) (hd5 : 2 * rden d shift ≤ B ^ 5) (hs : shift < 0) (hs1 : -1000 ≤ shift) (hs2 : shift ≤ 1000)
    (hw : away neg (rnum n shift / rden d shift) (rnum n shift % rden d shift) (rden d shift) mode = true) :
    Calls Tryd.prog 65 #[.agg #[.bool neg, .int .u64 (wd (n) 0), .int .u64 (wd (n) 1), .int .u64 (wd (n) 2), .int .u64 (wd (n) 3), .int .u64 (wd (n) 4)], .agg #[.int .u64 b0, .int .u64 b1, .int .u64 b2, .int .u64 b3, .int .u64 b4], .int .i64 shift, .int .i64 mode] w
      fun e w' => e = .returned (.agg #[.bool neg, .int .u64 (wd (rquo neg n d shift mode) 0), .int .u64 (wd (rquo neg n d shift mode) 1), .int .u64 (wd (rquo neg n d shift mode) 2), .int .u64 (wd (rquo neg n d shift mode) 3), .int .u64 (wd (rquo neg n d shift mode) 4)]) ∧ Below w.heap.size w w' := by
  obtain ⟨q, r, hq, hr, q5, r5, d5⟩ := ratio_core neg n d mode shift w hm hn hd hd5
  obtain ⟨u, hu⟩ : ∃ u, u = (-shift).toNat := ⟨_, rfl⟩
  have hu3 : u ≤ 1000 := by omega
  have eu : -shift = (u : Int) := by omega
  have hfin : rquo neg n d shift mode = q + 1 := by unfold rquo; rw [hw, ← hq]; simp
  rw [hfin]
  rw [← hq, ← hr] at hw
  have HD : Hid (∀ w : World, Calls Tryd.prog 80 #[.agg #[.int .u64 (wd (n) 0), .int .u64 (wd (n) 1), .int .u64 (wd (n) 2), .int .u64 (wd (n) 3), .int .u64 (wd (n) 4)], .agg #[.int .u64 (wd (d * 10 ^ u) 0), .int .u64 (wd (d * 10 ^ u) 1), .int .u64 (wd (d * 10 ^ u) 2), .int .u64 (wd (d * 10 ^ u) 3), .int .u64 (wd (d * 10 ^ u) 4)]] w fun e w' => e = .returned (.tuple #[.agg #[.int .u64 (wd (q) 0), .int .u64 (wd (q) 1), .int .u64 (wd (q) 2), .int .u64 (wd (q) 3), .int .u64 (wd (q) 4)], .agg #[.int .u64 (wd (r) 0), .int .u64 (wd (r) 1), .int .u64 (wd (r) 2), .int .u64 (wd (r) 3), .int .u64 (wd (r) 4)]]) ∧ Below w.heap.size w w') := by
    intro w
    rw [hq, hr]
    exact divided_any (rnum n shift) (rden d shift) _ _ _ _ _ _ _ _ _ _ w (by unfold rnum; rw [show shift.toNat = 0 by omega, Nat.pow_zero, Nat.mul_one]; exact IsW.self _) (by unfold rden; rw [← hu]; exact IsW.self _) hn hd hd5
  have HA : Hid (∀ w : World, Calls Tryd.prog 81 #[.bool neg, .agg #[.int .u64 (wd (q) 0), .int .u64 (wd (q) 1), .int .u64 (wd (q) 2), .int .u64 (wd (q) 3), .int .u64 (wd (q) 4)], .agg #[.int .u64 (wd (r) 0), .int .u64 (wd (r) 1), .int .u64 (wd (r) 2), .int .u64 (wd (r) 3), .int .u64 (wd (r) 4)], .agg #[.int .u64 (wd (d * 10 ^ u) 0), .int .u64 (wd (d * 10 ^ u) 1), .int .u64 (wd (d * 10 ^ u) 2), .int .u64 (wd (d * 10 ^ u) 3), .int .u64 (wd (d * 10 ^ u) 4)], .int .i64 mode] w fun e w' => e = .returned (.bool true) ∧ Below w.heap.size w w') := by
    intro w
    rw [← hw]
    exact away_any neg q r (rden d shift) mode _ _ _ _ _ _ _ _ _ _ _ _ _ _ _ w (IsW.self _) (IsW.self _) (by unfold rden; rw [← hu]; exact IsW.self _) q5 r5 d5 hm
  clear hw hfin hq hr hn hd hd5 hu
  go_enter Tryd.func65, Tryd.ntmps65
  go_wp2_with (first | (go_at_call 79; refine (ten_any d u _ _ _ _ _ _ hdw hu3).mono ?_; rintro e w1 ⟨rfl, hb1⟩; obtain ⟨x, rfl⟩ := ext_of_below hb1; clear hb1) | (go_at_call 80; refine (HD.out _).mono ?_; rintro e w1 ⟨rfl, hb1⟩; obtain ⟨y, rfl⟩ := ext_of_below hb1; clear hb1) | (go_at_call 81; refine (HA.out _).mono ?_; rintro e w1 ⟨rfl, hb1⟩; obtain ⟨z, rfl⟩ := ext_of_below hb1; clear hb1) | (go_at_call 82; refine (plus_any q 1 _ _ _ _ _ _ _ _ _ _ _ (IsW.self _) one_words).mono ?_; rintro e w1 ⟨rfl, hb1⟩; obtain ⟨v, rfl⟩ := ext_of_below hb1; clear hb1))
  refine bodyPost_ret (v := .agg _) (by simp [results, Tryd.results65, go_sem]) rfl ⟨rfl, ?_⟩
  repeat (first | exact Below.refl _ _ | refine Below.drew ?_ | refine below_drewN ?_ _ | refine bel_alloc ?_ _ | refine bel_ext ?_ _ | (refine Below.setCell ?_ ?_ _; rotate_left; (simp <;> omega)))

set_option maxHeartbeats 1000000 in
set_option maxRecDepth 100000 in
theorem ratio_pf (neg : Bool) (n d mode : Nat) (b0 b1 b2 b3 b4 shift : Int) (w : World) (hdw : IsW d b0 b1 b2 b3 b4) (hm : mode ≤ 6) (hn : rnum n shift < B ^ 5) (hd : 0 < rden d shift) (hd5 : 2 * rden d shift ≤ B ^ 5) (hs : 0 ≤ shift) (hs1 : -1000 ≤ shift) (hs2 : shift ≤ 1000)
    (hw : away neg (rnum n shift / rden d shift) (rnum n shift % rden d shift) (rden d shift) mode = false) :
    Calls Tryd.prog 65 #[.agg #[.bool neg, .int .u64 (wd (n) 0), .int .u64 (wd (n) 1), .int .u64 (wd (n) 2), .int .u64 (wd (n) 3), .int .u64 (wd (n) 4)], .agg #[.int .u64 b0, .int .u64 b1, .int .u64 b2, .int .u64 b3, .int .u64 b4], .int .i64 shift, .int .i64 mode] w
      fun e w' => e = .returned (.agg #[.bool neg, .int .u64 (wd (rquo neg n d shift mode) 0), .int .u64 (wd (rquo neg n d shift mode) 1), .int .u64 (wd (rquo neg n d shift mode) 2), .int .u64 (wd (rquo neg n d shift mode) 3), .int .u64 (wd (rquo neg n d shift mode) 4)]) ∧ Below w.heap.size w w' := by
  obtain ⟨q, r, hq, hr, q5, r5, d5⟩ := ratio_core neg n d mode shift w hm hn hd hd5
  obtain ⟨u, hu⟩ : ∃ u, u = shift.toNat := ⟨_, rfl⟩
  have hu3 : u ≤ 1000 := by omega
  have eu : shift = (u : Int) := by omega
  have hfin : rquo neg n d shift mode = q := by unfold rquo; rw [hw, ← hq]; simp
  rw [hfin]
  rw [← hq, ← hr] at hw
  have HD : Hid (∀ w : World, Calls Tryd.prog 80 #[.agg #[.int .u64 (wd (n * 10 ^ u) 0), .int .u64 (wd (n * 10 ^ u) 1), .int .u64 (wd (n * 10 ^ u) 2), .int .u64 (wd (n * 10 ^ u) 3), .int .u64 (wd (n * 10 ^ u) 4)], .agg #[.int .u64 b0, .int .u64 b1, .int .u64 b2, .int .u64 b3, .int .u64 b4]] w fun e w' => e = .returned (.tuple #[.agg #[.int .u64 (wd (q) 0), .int .u64 (wd (q) 1), .int .u64 (wd (q) 2), .int .u64 (wd (q) 3), .int .u64 (wd (q) 4)], .agg #[.int .u64 (wd (r) 0), .int .u64 (wd (r) 1), .int .u64 (wd (r) 2), .int .u64 (wd (r) 3), .int .u64 (wd (r) 4)]]) ∧ Below w.heap.size w w') := by
    intro w
    rw [hq, hr]
    exact divided_any (rnum n shift) (rden d shift) _ _ _ _ _ _ _ _ _ _ w (by unfold rnum; rw [← hu]; exact IsW.self _) (by unfold rden; rw [show (-shift).toNat = 0 by omega, Nat.pow_zero, Nat.mul_one]; exact hdw) hn hd hd5
  have HA : Hid (∀ w : World, Calls Tryd.prog 81 #[.bool neg, .agg #[.int .u64 (wd (q) 0), .int .u64 (wd (q) 1), .int .u64 (wd (q) 2), .int .u64 (wd (q) 3), .int .u64 (wd (q) 4)], .agg #[.int .u64 (wd (r) 0), .int .u64 (wd (r) 1), .int .u64 (wd (r) 2), .int .u64 (wd (r) 3), .int .u64 (wd (r) 4)], .agg #[.int .u64 b0, .int .u64 b1, .int .u64 b2, .int .u64 b3, .int .u64 b4], .int .i64 mode] w fun e w' => e = .returned (.bool false) ∧ Below w.heap.size w w') := by
    intro w
    rw [← hw]
    exact away_any neg q r (rden d shift) mode _ _ _ _ _ _ _ _ _ _ _ _ _ _ _ w (IsW.self _) (IsW.self _) (by unfold rden; rw [show (-shift).toNat = 0 by omega, Nat.pow_zero, Nat.mul_one]; exact hdw) q5 r5 d5 hm
  clear hw hfin hq hr hn hd hd5 hu
  go_enter Tryd.func65, Tryd.ntmps65
  go_wp2_with (first | (go_at_call 79; refine (ten_any n u _ _ _ _ _ _ (IsW.self _) hu3).mono ?_; rintro e w1 ⟨rfl, hb1⟩; obtain ⟨x, rfl⟩ := ext_of_below hb1; clear hb1) | (go_at_call 80; refine (HD.out _).mono ?_; rintro e w1 ⟨rfl, hb1⟩; obtain ⟨y, rfl⟩ := ext_of_below hb1; clear hb1) | (go_at_call 81; refine (HA.out _).mono ?_; rintro e w1 ⟨rfl, hb1⟩; obtain ⟨z, rfl⟩ := ext_of_below hb1; clear hb1))
  refine bodyPost_ret (v := .agg _) (by simp [results, Tryd.results65, go_sem]) rfl ⟨rfl, ?_⟩
  repeat (first | exact Below.refl _ _ | refine Below.drew ?_ | refine below_drewN ?_ _ | refine bel_alloc ?_ _ | refine bel_ext ?_ _ | (refine Below.setCell ?_ ?_ _; rotate_left; (simp <;> omega)))

set_option maxHeartbeats 1000000 in
set_option maxRecDepth 100000 in
theorem ratio_pt (neg : Bool) (n d mode : Nat) (b0 b1 b2 b3 b4 shift : Int) (w : World) (hdw : IsW d b0 b1 b2 b3 b4) (hm : mode ≤ 6) (hn : rnum n shift < B ^ 5) (hd : 0 < rden d shift) (hd5 : 2 * rden d shift ≤ B ^ 5) (hs : 0 ≤ shift) (hs1 : -1000 ≤ shift) (hs2 : shift ≤ 1000)
    (hw : away neg (rnum n shift / rden d shift) (rnum n shift % rden d shift) (rden d shift) mode = true) :
    Calls Tryd.prog 65 #[.agg #[.bool neg, .int .u64 (wd (n) 0), .int .u64 (wd (n) 1), .int .u64 (wd (n) 2), .int .u64 (wd (n) 3), .int .u64 (wd (n) 4)], .agg #[.int .u64 b0, .int .u64 b1, .int .u64 b2, .int .u64 b3, .int .u64 b4], .int .i64 shift, .int .i64 mode] w
      fun e w' => e = .returned (.agg #[.bool neg, .int .u64 (wd (rquo neg n d shift mode) 0), .int .u64 (wd (rquo neg n d shift mode) 1), .int .u64 (wd (rquo neg n d shift mode) 2), .int .u64 (wd (rquo neg n d shift mode) 3), .int .u64 (wd (rquo neg n d shift mode) 4)]) ∧ Below w.heap.size w w' := by
  obtain ⟨q, r, hq, hr, q5, r5, d5⟩ := ratio_core neg n d mode shift w hm hn hd hd5
  obtain ⟨u, hu⟩ : ∃ u, u = shift.toNat := ⟨_, rfl⟩
  have hu3 : u ≤ 1000 := by omega
  have eu : shift = (u : Int) := by omega
  have hfin : rquo neg n d shift mode = q + 1 := by unfold rquo; rw [hw, ← hq]; simp
  rw [hfin]
  rw [← hq, ← hr] at hw
  have HD : Hid (∀ w : World, Calls Tryd.prog 80 #[.agg #[.int .u64 (wd (n * 10 ^ u) 0), .int .u64 (wd (n * 10 ^ u) 1), .int .u64 (wd (n * 10 ^ u) 2), .int .u64 (wd (n * 10 ^ u) 3), .int .u64 (wd (n * 10 ^ u) 4)], .agg #[.int .u64 b0, .int .u64 b1, .int .u64 b2, .int .u64 b3, .int .u64 b4]] w fun e w' => e = .returned (.tuple #[.agg #[.int .u64 (wd (q) 0), .int .u64 (wd (q) 1), .int .u64 (wd (q) 2), .int .u64 (wd (q) 3), .int .u64 (wd (q) 4)], .agg #[.int .u64 (wd (r) 0), .int .u64 (wd (r) 1), .int .u64 (wd (r) 2), .int .u64 (wd (r) 3), .int .u64 (wd (r) 4)]]) ∧ Below w.heap.size w w') := by
    intro w
    rw [hq, hr]
    exact divided_any (rnum n shift) (rden d shift) _ _ _ _ _ _ _ _ _ _ w (by unfold rnum; rw [← hu]; exact IsW.self _) (by unfold rden; rw [show (-shift).toNat = 0 by omega, Nat.pow_zero, Nat.mul_one]; exact hdw) hn hd hd5
  have HA : Hid (∀ w : World, Calls Tryd.prog 81 #[.bool neg, .agg #[.int .u64 (wd (q) 0), .int .u64 (wd (q) 1), .int .u64 (wd (q) 2), .int .u64 (wd (q) 3), .int .u64 (wd (q) 4)], .agg #[.int .u64 (wd (r) 0), .int .u64 (wd (r) 1), .int .u64 (wd (r) 2), .int .u64 (wd (r) 3), .int .u64 (wd (r) 4)], .agg #[.int .u64 b0, .int .u64 b1, .int .u64 b2, .int .u64 b3, .int .u64 b4], .int .i64 mode] w fun e w' => e = .returned (.bool true) ∧ Below w.heap.size w w') := by
    intro w
    rw [← hw]
    exact away_any neg q r (rden d shift) mode _ _ _ _ _ _ _ _ _ _ _ _ _ _ _ w (IsW.self _) (IsW.self _) (by unfold rden; rw [show (-shift).toNat = 0 by omega, Nat.pow_zero, Nat.mul_one]; exact hdw) q5 r5 d5 hm
  clear hw hfin hq hr hn hd hd5 hu
  go_enter Tryd.func65, Tryd.ntmps65
  go_wp2_with (first | (go_at_call 79; refine (ten_any n u _ _ _ _ _ _ (IsW.self _) hu3).mono ?_; rintro e w1 ⟨rfl, hb1⟩; obtain ⟨x, rfl⟩ := ext_of_below hb1; clear hb1) | (go_at_call 80; refine (HD.out _).mono ?_; rintro e w1 ⟨rfl, hb1⟩; obtain ⟨y, rfl⟩ := ext_of_below hb1; clear hb1) | (go_at_call 81; refine (HA.out _).mono ?_; rintro e w1 ⟨rfl, hb1⟩; obtain ⟨z, rfl⟩ := ext_of_below hb1; clear hb1) | (go_at_call 82; refine (plus_any q 1 _ _ _ _ _ _ _ _ _ _ _ (IsW.self _) one_words).mono ?_; rintro e w1 ⟨rfl, hb1⟩; obtain ⟨v, rfl⟩ := ext_of_below hb1; clear hb1))
  refine bodyPost_ret (v := .agg _) (by simp [results, Tryd.results65, go_sem]) rfl ⟨rfl, ?_⟩
  repeat (first | exact Below.refl _ _ | refine Below.drew ?_ | refine below_drewN ?_ _ | refine bel_alloc ?_ _ | refine bel_ext ?_ _ | (refine Below.setCell ?_ ?_ _; rotate_left; (simp <;> omega)))

theorem ratio_any (neg : Bool) (n d mode : Nat) (b0 b1 b2 b3 b4 shift : Int) (w : World) (hdw : IsW d b0 b1 b2 b3 b4) (hm : mode ≤ 6) (hn : rnum n shift < B ^ 5) (hd : 0 < rden d shift) (hd5 : 2 * rden d shift ≤ B ^ 5) (hs1 : -1000 ≤ shift) (hs2 : shift ≤ 1000) :
    Calls Tryd.prog 65 #[.agg #[.bool neg, .int .u64 (wd (n) 0), .int .u64 (wd (n) 1), .int .u64 (wd (n) 2), .int .u64 (wd (n) 3), .int .u64 (wd (n) 4)], .agg #[.int .u64 b0, .int .u64 b1, .int .u64 b2, .int .u64 b3, .int .u64 b4], .int .i64 shift, .int .i64 mode] w
      fun e w' => e = .returned (.agg #[.bool neg, .int .u64 (wd (rquo neg n d shift mode) 0), .int .u64 (wd (rquo neg n d shift mode) 1), .int .u64 (wd (rquo neg n d shift mode) 2), .int .u64 (wd (rquo neg n d shift mode) 3), .int .u64 (wd (rquo neg n d shift mode) 4)]) ∧ Below w.heap.size w w' := by
  rcases Int.lt_or_le shift 0 with c | c <;> cases hw : away neg (rnum n shift / rden d shift) (rnum n shift % rden d shift) (rden d shift) mode
  · exact ratio_nf neg n d mode _ _ _ _ _ shift w hdw hm hn hd hd5 c hs1 hs2 hw
  · exact ratio_nt neg n d mode _ _ _ _ _ shift w hdw hm hn hd hd5 c hs1 hs2 hw
  · exact ratio_pf neg n d mode _ _ _ _ _ shift w hdw hm hn hd hd5 c hs1 hs2 hw
  · exact ratio_pt neg n d mode _ _ _ _ _ shift w hdw hm hn hd hd5 c hs1 hs2 hw
end Go.Proofs.YtcnigpkmedgbdaaDoor
