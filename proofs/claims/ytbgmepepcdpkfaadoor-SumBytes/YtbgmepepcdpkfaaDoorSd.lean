/- sum: the contracts of turns and schedule. -/
import Derived.Test.YtbgmepepcdpkfaaDoorSc
namespace Go.Proofs.YtbgmepepcdpkfaaDoor
open Go.RowKit
set_option linter.unusedVariables false

def S1 (e : Nat) : Nat := rot e 6 ^^^ rot e 11 ^^^ rot e 25
def S0 (a : Nat) : Nat := rot a 2 ^^^ rot a 13 ^^^ rot a 22
def Ch (e f g : Nat) : Nat := (e &&& f) ^^^ ((4294967295 - e) &&& g)
def Mj (a b c : Nat) : Nat := (a &&& b) ^^^ (a &&& c) ^^^ (b &&& c)
def T1 (h e f g more : Nat) : Nat := (h + S1 e + Ch e f g + more) % 4294967296
def T2 (a b c : Nat) : Nat := (S0 a + Mj a b c) % 4294967296
theorem and32 {a b : Nat} (h : a < 4294967296) : a &&& b < 4294967296 := Nat.lt_of_le_of_lt Nat.and_le_left h
/-- eight words -/
structure W8 (ss : List Nat) : Prop where
  len : ss.length = 8
  small : ∀ x ∈ ss, x < 4294967296
theorem getD_small {ss : List Nat} (h : ∀ x ∈ ss, x < 4294967296) (k : Nat) : ss.getD k 0 < 4294967296 := by
  by_cases hk : k < ss.length
  · have := h (ss.getD k 0) (by simp [hk])
    exact this
  · simp [List.getD, List.getElem?_eq_none (Nat.le_of_not_lt hk)]
theorem W8.at {ss : List Nat} (h : W8 ss) (k : Nat) : ss.getD k 0 < 4294967296 := getD_small h.small k
def TT1 (ss : List Nat) (more : Nat) : Nat := T1 (ss.getD 7 0) (ss.getD 4 0) (ss.getD 5 0) (ss.getD 6 0) more
def TT2 (ss : List Nat) : Nat := T2 (ss.getD 0 0) (ss.getD 1 0) (ss.getD 2 0)
theorem info43 : (Tryd.prog.info? 43).map (·.size) = some 8 := by kernel_rfl
theorem xor_max (e : Nat) (h : e < 4294967296) : bits .xor .u32 IntKind.u32.max (e : Int) = ((4294967295 - e : Nat) : Int) := by
  have h1 := u32_xor_nat 4294967295 e (by omega) h
  rw [show IntKind.u32.max = ((4294967295 : Nat) : Int) from rfl, h1]
  congr 1
  have h2 : (BitVec.allOnes 32 ^^^ BitVec.ofNat 32 e) = ~~~ (BitVec.ofNat 32 e) := BitVec.allOnes_xor
  have h3 := congrArg BitVec.toNat h2
  rw [BitVec.toNat_xor, BitVec.toNat_not, BitVec.toNat_allOnes, BitVec.toNat_ofNat, Nat.mod_eq_of_lt (by simpa using h)] at h3
  exact h3
set_option maxHeartbeats 1000000 in
set_option maxRecDepth 100000 in
theorem turns_ok (ss : List Nat) (m : Nat) (w : World) (h : W8 ss) (hm : m < 4294967296) :
    Calls Tryd.prog 29 #[.agg (cw ss).toArray, .int .u32 m] w fun e w' => e = .returned (.tuple #[.int .u32 (TT1 ss m), .int .u32 (TT2 ss)]) ∧ Below w.heap.size w w' := by
  have HT1 : Hid (TT1 ss m = T1 (ss.getD 7 0) (ss.getD 4 0) (ss.getD 5 0) (ss.getD 6 0) m) := rfl
  have HT2 : Hid (TT2 ss = T2 (ss.getD 0 0) (ss.getD 1 0) (ss.getD 2 0)) := rfl
  have H0 := h.at 0
  have H1 := h.at 1
  have H2 := h.at 2
  have H4 := h.at 4
  have H5 := h.at 5
  have H6 := h.at 6
  have H7 := h.at 7
  have HL := h.len
  have V := va_new w (cw ss) 43
  have c0 := V.cell 0 (cw_get ss 0 (by omega))
  have c1 := V.cell 1 (cw_get ss 1 (by omega))
  have c2 := V.cell 2 (cw_get ss 2 (by omega))
  have c4 := V.cell 4 (cw_get ss 4 (by omega))
  have c5 := V.cell 5 (cw_get ss 5 (by omega))
  have c6 := V.cell 6 (cw_get ss 6 (by omega))
  have c7 := V.cell 7 (cw_get ss 7 (by omega))
  have B := (show Hid _ from (Below.refl w.heap.size w).alloc (Nat.le_refl _) (.cells (cw ss).toArray 43))
  unfold TT1 TT2
  clear V HT1 HT2 h HL
  generalize ss.getD 0 0 = a at *
  generalize ss.getD 1 0 = b at *
  generalize ss.getD 2 0 = c at *
  generalize ss.getD 4 0 = e at *
  generalize ss.getD 5 0 = f at *
  generalize ss.getD 6 0 = g at *
  generalize ss.getD 7 0 = z at *
  have r1 := rot_lt (n := 6) H4
  have r2 := rot_lt (n := 11) H4
  have r3 := rot_lt (n := 25) H4
  have q1 := rot_lt (n := 2) H0
  have q2 := rot_lt (n := 13) H0
  have q3 := rot_lt (n := 22) H0
  have x1 := u32_xor_nat (rot e 6) (rot e 11) r1 r2
  have x2 := u32_xor_nat (rot e 6 ^^^ rot e 11) (rot e 25) (x32 r1 r2) r3
  have x3 := u32_xor_nat (rot a 2) (rot a 13) q1 q2
  have x4 := u32_xor_nat (rot a 2 ^^^ rot a 13) (rot a 22) (x32 q1 q2) q3
  have z1 := xor_max e H4
  have n1 := u32_and_nat e f H4 H5
  have n2 := u32_and_nat (4294967295 - e) g (by omega) H6
  have n3 := u32_and_nat a b H0 H1
  have n4 := u32_and_nat a c H0 H2
  have n5 := u32_and_nat b c H1 H2
  have y1 := u32_xor_nat (e &&& f) ((4294967295 - e) &&& g) (and32 H4) (and32 (by omega))
  have y2 := u32_xor_nat (a &&& b) (a &&& c) (and32 H0) (and32 H0)
  have y3 := u32_xor_nat ((a &&& b) ^^^ (a &&& c)) (b &&& c) (x32 (and32 H0) (and32 H0)) (and32 H1)
  go_enter Tryd.func29, Tryd.ntmps29
  go_wp2_with fail
  generalize w.alloc (.cells (cw ss).toArray 43) = w1 at *
  go_quiet (fail)
  go_wp2_with fail
  refine (turned_ok e 6 _ rfl _ H4 (by unfold Turn; omega)).mono ?_
  rintro e1 w2 ⟨rfl, rfl⟩
  go_wp2_with fail
  refine (turned_ok e 11 _ rfl _ H4 (by unfold Turn; omega)).mono ?_
  rintro e1 w2 ⟨rfl, rfl⟩
  go_wp2_with fail
  refine (turned_ok e 25 _ rfl _ H4 (by unfold Turn; omega)).mono ?_
  rintro e1 w2 ⟨rfl, rfl⟩
  go_wp2_with fail
  refine (turned_ok a 2 _ rfl _ H0 (by unfold Turn; omega)).mono ?_
  rintro e1 w2 ⟨rfl, rfl⟩
  go_wp2_with fail
  refine (turned_ok a 13 _ rfl _ H0 (by unfold Turn; omega)).mono ?_
  rintro e1 w2 ⟨rfl, rfl⟩
  go_wp2_with fail
  refine (turned_ok a 22 _ rfl _ H0 (by unfold Turn; omega)).mono ?_
  rintro e1 w2 ⟨rfl, rfl⟩
  go_wp2_with fail
  go_ret2
  refine ⟨?_, bel_drewN B.out _⟩
  unfold T1 T2 S1 S0 Ch Mj
  simp only [Array.getD]
  rfl
end Go.Proofs.YtbgmepepcdpkfaaDoor
