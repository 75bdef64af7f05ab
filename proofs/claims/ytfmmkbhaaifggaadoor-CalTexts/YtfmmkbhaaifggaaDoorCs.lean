/- Texts of days: the contract of hasForm. -/
import Derived.Test.YtfmmkbhaaifggaaDoorCr
import Derived.BigRegion
namespace Go.Proofs.YtfmmkbhaaifggaaDoor
open Go.RowKit
set_option linter.unusedVariables false

/-- a digit at that place -/
def Dig (s : ByteArray) (i : Nat) : Prop := 48 ≤ chr s i ∧ chr s i ≤ 57
/-- the form of a day's text -/
def Form (s : ByteArray) : Prop := Dig s 0 ∧ Dig s 1 ∧ Dig s 2 ∧ Dig s 3 ∧ chr s 4 = 45 ∧ Dig s 5 ∧ Dig s 6 ∧ chr s 7 = 45 ∧ Dig s 8 ∧ Dig s 9
instance (s : ByteArray) : Decidable (Form s) := by unfold Form Dig; exact inferInstance
theorem hasForm_len (s : ByteArray) (w : World) (h : ¬ s.size = 10) :
    Calls Tryd.prog 10 #[.string s] w fun e w' => e = .returned (.bool false) ∧ Below w.heap.size w w' := by
  have h' : ¬ (s.size : Int) = 10 := by omega
  go_enter Tryd.func10, Tryd.ntmps10
  go_wp2_with fail
  go_ret
  exact ⟨rfl, Below.refl _ _⟩
set_option maxHeartbeats 4000000 in
set_option maxRecDepth 100000 in
theorem hasForm_ok (s : ByteArray) (w : World) (h : s.size = 10) :
    Calls Tryd.prog 10 #[.string s] w fun e w' => e = .returned (.bool (decide (Form s))) ∧ Below w.heap.size w w' := by
  have f0 : ((({ data := #[48, 48, 48, 48, 45, 48, 48, 45, 48, 48] } : ByteArray)[0].toNat : Nat) : Int) = 48 := rfl
  have f1 : ((({ data := #[48, 48, 48, 48, 45, 48, 48, 45, 48, 48] } : ByteArray)[1].toNat : Nat) : Int) = 48 := rfl
  have f2 : ((({ data := #[48, 48, 48, 48, 45, 48, 48, 45, 48, 48] } : ByteArray)[2].toNat : Nat) : Int) = 48 := rfl
  have f3 : ((({ data := #[48, 48, 48, 48, 45, 48, 48, 45, 48, 48] } : ByteArray)[3].toNat : Nat) : Int) = 48 := rfl
  have f4 : ((({ data := #[48, 48, 48, 48, 45, 48, 48, 45, 48, 48] } : ByteArray)[4].toNat : Nat) : Int) = 45 := rfl
  have f5 : ((({ data := #[48, 48, 48, 48, 45, 48, 48, 45, 48, 48] } : ByteArray)[5].toNat : Nat) : Int) = 48 := rfl
  have f6 : ((({ data := #[48, 48, 48, 48, 45, 48, 48, 45, 48, 48] } : ByteArray)[6].toNat : Nat) : Int) = 48 := rfl
  have f7 : ((({ data := #[48, 48, 48, 48, 45, 48, 48, 45, 48, 48] } : ByteArray)[7].toNat : Nat) : Int) = 45 := rfl
  have f8 : ((({ data := #[48, 48, 48, 48, 45, 48, 48, 45, 48, 48] } : ByteArray)[8].toNat : Nat) : Int) = 48 := rfl
  have f9 : ((({ data := #[48, 48, 48, 48, 45, 48, 48, 45, 48, 48] } : ByteArray)[9].toNat : Nat) : Int) = 48 := rfl
  have c0 : chr s 0 = (s[0].toNat : Int) := chr_at (by omega)
  have c1 : chr s 1 = (s[1].toNat : Int) := chr_at (by omega)
  have c2 : chr s 2 = (s[2].toNat : Int) := chr_at (by omega)
  have c3 : chr s 3 = (s[3].toNat : Int) := chr_at (by omega)
  have c4 : chr s 4 = (s[4].toNat : Int) := chr_at (by omega)
  have c5 : chr s 5 = (s[5].toNat : Int) := chr_at (by omega)
  have c6 : chr s 6 = (s[6].toNat : Int) := chr_at (by omega)
  have c7 : chr s 7 = (s[7].toNat : Int) := chr_at (by omega)
  have c8 : chr s 8 = (s[8].toNat : Int) := chr_at (by omega)
  have c9 : chr s 9 = (s[9].toNat : Int) := chr_at (by omega)
  have HC := (show Hid _ from And.intro c0 (And.intro c1 (And.intro c2 (And.intro c3 (And.intro c4 (And.intro c5 (And.intro c6 (And.intro c7 (And.intro c8 c9)))))))))
  clear c0 c1 c2 c3 c4 c5 c6 c7 c8 c9
  go_enter Tryd.func10, Tryd.ntmps10
  go_wp2_with fail
  refine wp_loop_rounds 11 ?_
  rw [rounds_succ]
  by_cases m0 : (s[0].toNat : Int) = 45
  · go_wp2_with fail
    go_region
    all_goals go_wp2_with fail
    all_goals go_ret
    all_goals
      refine ⟨?_, ?_⟩
      · have c := HC.out
        have nf : ¬ Form s := fun F => by unfold Form Dig at F; omega
        simp [nf]
      · repeat (first | exact Below.refl _ _ | refine Below.drew ?_)
  by_cases l0 : (s[0].toNat : Int) < 48
  · go_wp2_with fail
    go_region
    all_goals go_wp2_with fail
    all_goals go_ret
    all_goals
      refine ⟨?_, ?_⟩
      · have c := HC.out
        have nf : ¬ Form s := fun F => by unfold Form Dig at F; omega
        simp [nf]
      · repeat (first | exact Below.refl _ _ | refine Below.drew ?_)
  by_cases u0 : 57 < (s[0].toNat : Int)
  · go_wp2_with fail
    go_region
    all_goals go_wp2_with fail
    all_goals go_ret
    all_goals
      refine ⟨?_, ?_⟩
      · have c := HC.out
        have nf : ¬ Form s := fun F => by unfold Form Dig at F; omega
        simp [nf]
      · repeat (first | exact Below.refl _ _ | refine Below.drew ?_)
  have g0 : 48 ≤ (s[0].toNat : Int) ∧ (s[0].toNat : Int) ≤ 57 := by omega
  clear m0 l0 u0
  have g0' : ¬ (s[0].toNat : Int) = 45 := by omega
  go_wp2_with fail
  go_region
  go_wp2_with fail
  rw [rounds_succ]
  by_cases m1 : (s[1].toNat : Int) = 45
  · go_wp2_with fail
    go_region
    all_goals go_wp2_with fail
    all_goals go_ret
    all_goals
      refine ⟨?_, ?_⟩
      · have c := HC.out
        have nf : ¬ Form s := fun F => by unfold Form Dig at F; omega
        simp [nf]
      · repeat (first | exact Below.refl _ _ | refine Below.drew ?_)
  by_cases l1 : (s[1].toNat : Int) < 48
  · go_wp2_with fail
    go_region
    all_goals go_wp2_with fail
    all_goals go_ret
    all_goals
      refine ⟨?_, ?_⟩
      · have c := HC.out
        have nf : ¬ Form s := fun F => by unfold Form Dig at F; omega
        simp [nf]
      · repeat (first | exact Below.refl _ _ | refine Below.drew ?_)
  by_cases u1 : 57 < (s[1].toNat : Int)
  · go_wp2_with fail
    go_region
    all_goals go_wp2_with fail
    all_goals go_ret
    all_goals
      refine ⟨?_, ?_⟩
      · have c := HC.out
        have nf : ¬ Form s := fun F => by unfold Form Dig at F; omega
        simp [nf]
      · repeat (first | exact Below.refl _ _ | refine Below.drew ?_)
  have g1 : 48 ≤ (s[1].toNat : Int) ∧ (s[1].toNat : Int) ≤ 57 := by omega
  clear m1 l1 u1
  have g1' : ¬ (s[1].toNat : Int) = 45 := by omega
  go_wp2_with fail
  go_region
  go_wp2_with fail
  rw [rounds_succ]
  by_cases m2 : (s[2].toNat : Int) = 45
  · go_wp2_with fail
    go_region
    all_goals go_wp2_with fail
    all_goals go_ret
    all_goals
      refine ⟨?_, ?_⟩
      · have c := HC.out
        have nf : ¬ Form s := fun F => by unfold Form Dig at F; omega
        simp [nf]
      · repeat (first | exact Below.refl _ _ | refine Below.drew ?_)
  by_cases l2 : (s[2].toNat : Int) < 48
  · go_wp2_with fail
    go_region
    all_goals go_wp2_with fail
    all_goals go_ret
    all_goals
      refine ⟨?_, ?_⟩
      · have c := HC.out
        have nf : ¬ Form s := fun F => by unfold Form Dig at F; omega
        simp [nf]
      · repeat (first | exact Below.refl _ _ | refine Below.drew ?_)
  by_cases u2 : 57 < (s[2].toNat : Int)
  · go_wp2_with fail
    go_region
    all_goals go_wp2_with fail
    all_goals go_ret
    all_goals
      refine ⟨?_, ?_⟩
      · have c := HC.out
        have nf : ¬ Form s := fun F => by unfold Form Dig at F; omega
        simp [nf]
      · repeat (first | exact Below.refl _ _ | refine Below.drew ?_)
  have g2 : 48 ≤ (s[2].toNat : Int) ∧ (s[2].toNat : Int) ≤ 57 := by omega
  clear m2 l2 u2
  have g2' : ¬ (s[2].toNat : Int) = 45 := by omega
  go_wp2_with fail
  go_region
  go_wp2_with fail
  rw [rounds_succ]
  by_cases m3 : (s[3].toNat : Int) = 45
  · go_wp2_with fail
    go_region
    all_goals go_wp2_with fail
    all_goals go_ret
    all_goals
      refine ⟨?_, ?_⟩
      · have c := HC.out
        have nf : ¬ Form s := fun F => by unfold Form Dig at F; omega
        simp [nf]
      · repeat (first | exact Below.refl _ _ | refine Below.drew ?_)
  by_cases l3 : (s[3].toNat : Int) < 48
  · go_wp2_with fail
    go_region
    all_goals go_wp2_with fail
    all_goals go_ret
    all_goals
      refine ⟨?_, ?_⟩
      · have c := HC.out
        have nf : ¬ Form s := fun F => by unfold Form Dig at F; omega
        simp [nf]
      · repeat (first | exact Below.refl _ _ | refine Below.drew ?_)
  by_cases u3 : 57 < (s[3].toNat : Int)
  · go_wp2_with fail
    go_region
    all_goals go_wp2_with fail
    all_goals go_ret
    all_goals
      refine ⟨?_, ?_⟩
      · have c := HC.out
        have nf : ¬ Form s := fun F => by unfold Form Dig at F; omega
        simp [nf]
      · repeat (first | exact Below.refl _ _ | refine Below.drew ?_)
  have g3 : 48 ≤ (s[3].toNat : Int) ∧ (s[3].toNat : Int) ≤ 57 := by omega
  clear m3 l3 u3
  have g3' : ¬ (s[3].toNat : Int) = 45 := by omega
  go_wp2_with fail
  go_region
  go_wp2_with fail
  rw [rounds_succ]
  by_cases n4 : ¬ (s[4].toNat : Int) = 45
  · have q4 : ((s[4].toNat : Int) == 45) = false := by simp [n4]
    go_wp2_with fail
    go_region
    all_goals go_wp2_with fail
    all_goals go_ret
    all_goals
      refine ⟨?_, ?_⟩
      · have c := HC.out
        have nf : ¬ Form s := fun F => by unfold Form Dig at F; omega
        simp [nf]
      · repeat (first | exact Below.refl _ _ | refine Below.drew ?_)
  have g4 : (s[4].toNat : Int) = 45 := Classical.not_not.1 n4
  clear n4
  go_wp2_with fail
  go_region
  go_wp2_with fail
  rw [rounds_succ]
  by_cases m5 : (s[5].toNat : Int) = 45
  · go_wp2_with fail
    go_region
    all_goals go_wp2_with fail
    all_goals go_ret
    all_goals
      refine ⟨?_, ?_⟩
      · have c := HC.out
        have nf : ¬ Form s := fun F => by unfold Form Dig at F; omega
        simp [nf]
      · repeat (first | exact Below.refl _ _ | refine Below.drew ?_)
  by_cases l5 : (s[5].toNat : Int) < 48
  · go_wp2_with fail
    go_region
    all_goals go_wp2_with fail
    all_goals go_ret
    all_goals
      refine ⟨?_, ?_⟩
      · have c := HC.out
        have nf : ¬ Form s := fun F => by unfold Form Dig at F; omega
        simp [nf]
      · repeat (first | exact Below.refl _ _ | refine Below.drew ?_)
  by_cases u5 : 57 < (s[5].toNat : Int)
  · go_wp2_with fail
    go_region
    all_goals go_wp2_with fail
    all_goals go_ret
    all_goals
      refine ⟨?_, ?_⟩
      · have c := HC.out
        have nf : ¬ Form s := fun F => by unfold Form Dig at F; omega
        simp [nf]
      · repeat (first | exact Below.refl _ _ | refine Below.drew ?_)
  have g5 : 48 ≤ (s[5].toNat : Int) ∧ (s[5].toNat : Int) ≤ 57 := by omega
  clear m5 l5 u5
  have g5' : ¬ (s[5].toNat : Int) = 45 := by omega
  go_wp2_with fail
  go_region
  go_wp2_with fail
  rw [rounds_succ]
  by_cases m6 : (s[6].toNat : Int) = 45
  · go_wp2_with fail
    go_region
    all_goals go_wp2_with fail
    all_goals go_ret
    all_goals
      refine ⟨?_, ?_⟩
      · have c := HC.out
        have nf : ¬ Form s := fun F => by unfold Form Dig at F; omega
        simp [nf]
      · repeat (first | exact Below.refl _ _ | refine Below.drew ?_)
  by_cases l6 : (s[6].toNat : Int) < 48
  · go_wp2_with fail
    go_region
    all_goals go_wp2_with fail
    all_goals go_ret
    all_goals
      refine ⟨?_, ?_⟩
      · have c := HC.out
        have nf : ¬ Form s := fun F => by unfold Form Dig at F; omega
        simp [nf]
      · repeat (first | exact Below.refl _ _ | refine Below.drew ?_)
  by_cases u6 : 57 < (s[6].toNat : Int)
  · go_wp2_with fail
    go_region
    all_goals go_wp2_with fail
    all_goals go_ret
    all_goals
      refine ⟨?_, ?_⟩
      · have c := HC.out
        have nf : ¬ Form s := fun F => by unfold Form Dig at F; omega
        simp [nf]
      · repeat (first | exact Below.refl _ _ | refine Below.drew ?_)
  have g6 : 48 ≤ (s[6].toNat : Int) ∧ (s[6].toNat : Int) ≤ 57 := by omega
  clear m6 l6 u6
  have g6' : ¬ (s[6].toNat : Int) = 45 := by omega
  go_wp2_with fail
  go_region
  go_wp2_with fail
  rw [rounds_succ]
  by_cases n7 : ¬ (s[7].toNat : Int) = 45
  · have q7 : ((s[7].toNat : Int) == 45) = false := by simp [n7]
    go_wp2_with fail
    go_region
    all_goals go_wp2_with fail
    all_goals go_ret
    all_goals
      refine ⟨?_, ?_⟩
      · have c := HC.out
        have nf : ¬ Form s := fun F => by unfold Form Dig at F; omega
        simp [nf]
      · repeat (first | exact Below.refl _ _ | refine Below.drew ?_)
  have g7 : (s[7].toNat : Int) = 45 := Classical.not_not.1 n7
  clear n7
  go_wp2_with fail
  go_region
  go_wp2_with fail
  rw [rounds_succ]
  by_cases m8 : (s[8].toNat : Int) = 45
  · go_wp2_with fail
    go_region
    all_goals go_wp2_with fail
    all_goals go_ret
    all_goals
      refine ⟨?_, ?_⟩
      · have c := HC.out
        have nf : ¬ Form s := fun F => by unfold Form Dig at F; omega
        simp [nf]
      · repeat (first | exact Below.refl _ _ | refine Below.drew ?_)
  by_cases l8 : (s[8].toNat : Int) < 48
  · go_wp2_with fail
    go_region
    all_goals go_wp2_with fail
    all_goals go_ret
    all_goals
      refine ⟨?_, ?_⟩
      · have c := HC.out
        have nf : ¬ Form s := fun F => by unfold Form Dig at F; omega
        simp [nf]
      · repeat (first | exact Below.refl _ _ | refine Below.drew ?_)
  by_cases u8 : 57 < (s[8].toNat : Int)
  · go_wp2_with fail
    go_region
    all_goals go_wp2_with fail
    all_goals go_ret
    all_goals
      refine ⟨?_, ?_⟩
      · have c := HC.out
        have nf : ¬ Form s := fun F => by unfold Form Dig at F; omega
        simp [nf]
      · repeat (first | exact Below.refl _ _ | refine Below.drew ?_)
  have g8 : 48 ≤ (s[8].toNat : Int) ∧ (s[8].toNat : Int) ≤ 57 := by omega
  clear m8 l8 u8
  have g8' : ¬ (s[8].toNat : Int) = 45 := by omega
  go_wp2_with fail
  go_region
  go_wp2_with fail
  rw [rounds_succ]
  by_cases m9 : (s[9].toNat : Int) = 45
  · go_wp2_with fail
    go_region
    all_goals go_wp2_with fail
    all_goals go_ret
    all_goals
      refine ⟨?_, ?_⟩
      · have c := HC.out
        have nf : ¬ Form s := fun F => by unfold Form Dig at F; omega
        simp [nf]
      · repeat (first | exact Below.refl _ _ | refine Below.drew ?_)
  by_cases l9 : (s[9].toNat : Int) < 48
  · go_wp2_with fail
    go_region
    all_goals go_wp2_with fail
    all_goals go_ret
    all_goals
      refine ⟨?_, ?_⟩
      · have c := HC.out
        have nf : ¬ Form s := fun F => by unfold Form Dig at F; omega
        simp [nf]
      · repeat (first | exact Below.refl _ _ | refine Below.drew ?_)
  by_cases u9 : 57 < (s[9].toNat : Int)
  · go_wp2_with fail
    go_region
    all_goals go_wp2_with fail
    all_goals go_ret
    all_goals
      refine ⟨?_, ?_⟩
      · have c := HC.out
        have nf : ¬ Form s := fun F => by unfold Form Dig at F; omega
        simp [nf]
      · repeat (first | exact Below.refl _ _ | refine Below.drew ?_)
  have g9 : 48 ≤ (s[9].toNat : Int) ∧ (s[9].toNat : Int) ≤ 57 := by omega
  clear m9 l9 u9
  have g9' : ¬ (s[9].toNat : Int) = 45 := by omega
  go_wp2_with fail
  go_region
  go_wp2_with fail
  rw [rounds_succ]
  go_wp2_with fail
  go_ret
  refine ⟨?_, ?_⟩
  · have c := HC.out
    have yf : Form s := by unfold Form Dig; omega
    simp [yf]
  · repeat (first | exact Below.refl _ _ | refine Below.drew ?_)
end Go.Proofs.YtfmmkbhaaifggaaDoor
