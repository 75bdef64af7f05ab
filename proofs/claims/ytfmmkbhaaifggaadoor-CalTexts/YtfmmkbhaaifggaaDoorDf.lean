/- CalTexts: texts in plain numbers. -/
import Derived.Test.YtfmmkbhaaifggaaDoorDb
import Derived.Test.YtfmmkbhaaifggaaDoorDc
import Derived.Test.YtfmmkbhaaifggaaDoorDd
namespace Go.Proofs.YtfmmkbhaaifggaaDoor
open Go.RowKit
set_option linter.unusedVariables false
set_option linter.unusedSimpArgs false

theorem cg_val (v k : Nat) : (cg v k).toNat = 48 + v / 10 ^ k % 10 := by
  unfold cg
  rw [UInt8.toNat_ofNat']
  have : v / 10 ^ k % 10 < 10 := Nat.mod_lt _ (by decide)
  omega
theorem cg_at (v k x : Nat) (b : UInt8) (h : (b.toNat : Int) = 48 + x) (e : v / 10 ^ k % 10 = x) : b = cg v k := by
  apply UInt8.toNat_inj.1
  rw [cg_val, e]
  omega
theorem tx0 (y m d : Nat) : chr (txt y m d) 0 = 48 + ((y / 10 ^ 3 % 10 : Nat) : Int) := by
  have h : 0 < (txt y m d).size := by show 0 < 10; decide
  show chr _ _ = _
  rw [chr_at h, show (txt y m d)[0] = cg y 3 from rfl, cg_val]
  omega
theorem tx1 (y m d : Nat) : chr (txt y m d) 1 = 48 + ((y / 10 ^ 2 % 10 : Nat) : Int) := by
  have h : 1 < (txt y m d).size := by show 1 < 10; decide
  show chr _ _ = _
  rw [chr_at h, show (txt y m d)[1] = cg y 2 from rfl, cg_val]
  omega
theorem tx2 (y m d : Nat) : chr (txt y m d) 2 = 48 + ((y / 10 ^ 1 % 10 : Nat) : Int) := by
  have h : 2 < (txt y m d).size := by show 2 < 10; decide
  show chr _ _ = _
  rw [chr_at h, show (txt y m d)[2] = cg y 1 from rfl, cg_val]
  omega
theorem tx3 (y m d : Nat) : chr (txt y m d) 3 = 48 + ((y / 10 ^ 0 % 10 : Nat) : Int) := by
  have h : 3 < (txt y m d).size := by show 3 < 10; decide
  show chr _ _ = _
  rw [chr_at h, show (txt y m d)[3] = cg y 0 from rfl, cg_val]
  omega
theorem tx5 (y m d : Nat) : chr (txt y m d) 5 = 48 + ((m / 10 ^ 1 % 10 : Nat) : Int) := by
  have h : 5 < (txt y m d).size := by show 5 < 10; decide
  show chr _ _ = _
  rw [chr_at h, show (txt y m d)[5] = cg m 1 from rfl, cg_val]
  omega
theorem tx6 (y m d : Nat) : chr (txt y m d) 6 = 48 + ((m / 10 ^ 0 % 10 : Nat) : Int) := by
  have h : 6 < (txt y m d).size := by show 6 < 10; decide
  show chr _ _ = _
  rw [chr_at h, show (txt y m d)[6] = cg m 0 from rfl, cg_val]
  omega
theorem tx8 (y m d : Nat) : chr (txt y m d) 8 = 48 + ((d / 10 ^ 1 % 10 : Nat) : Int) := by
  have h : 8 < (txt y m d).size := by show 8 < 10; decide
  show chr _ _ = _
  rw [chr_at h, show (txt y m d)[8] = cg d 1 from rfl, cg_val]
  omega
theorem tx9 (y m d : Nat) : chr (txt y m d) 9 = 48 + ((d / 10 ^ 0 % 10 : Nat) : Int) := by
  have h : 9 < (txt y m d).size := by show 9 < 10; decide
  show chr _ _ = _
  rw [chr_at h, show (txt y m d)[9] = cg d 0 from rfl, cg_val]
  omega
theorem tx4 (y m d : Nat) : chr (txt y m d) 4 = 45 := by
  have h : 4 < (txt y m d).size := by show 4 < 10; decide
  rw [chr_at h]; rfl
theorem tx7 (y m d : Nat) : chr (txt y m d) 7 = 45 := by
  have h : 7 < (txt y m d).size := by show 7 < 10; decide
  rw [chr_at h]; rfl
theorem txt_form (y m d : Nat) : Form (txt y m d) := by
  unfold Form Dig
  rw [tx0, tx1, tx2, tx3, tx4, tx5, tx6, tx7, tx8, tx9]
  refine ⟨?_, ?_, ?_, ?_, ?_, ?_, ?_, ?_, ?_, ?_⟩ <;> omega
theorem txt_y (y m d : Nat) (h : y < 10000) : dv (txt y m d) 0 4 = y := by
  simp only [dv, Nat.add_zero, Nat.zero_add, Nat.reduceAdd, tx0, tx1, tx2, tx3]
  omega
theorem txt_m (y m d : Nat) (h : m < 100) : dv (txt y m d) 5 2 = m := by
  simp only [dv, Nat.add_zero, Nat.zero_add, Nat.reduceAdd, tx5, tx6]
  omega
theorem txt_d (y m d : Nat) (h : d < 100) : dv (txt y m d) 8 2 = d := by
  simp only [dv, Nat.add_zero, Nat.zero_add, Nat.reduceAdd, tx8, tx9]
  omega
theorem ten_bytes (s : ByteArray) (h : s.size = 10) : s = ⟨#[s[0], s[1], s[2], s[3], s[4], s[5], s[6], s[7], s[8], s[9]]⟩ := by
  apply ByteArray.ext
  apply Array.ext
  · show s.size = 10
    exact h
  · intro i h1 h2
    have hi : i < 10 := h2
    match i, hi with
    | 0, _ => rfl
    | 1, _ => rfl
    | 2, _ => rfl
    | 3, _ => rfl
    | 4, _ => rfl
    | 5, _ => rfl
    | 6, _ => rfl
    | 7, _ => rfl
    | 8, _ => rfl
    | 9, _ => rfl
/-- a text in form is the text of what its digits tell -/
theorem txt_of (s : ByteArray) (h : s.size = 10) (F : Form s) : ∃ y m d : Nat, dv s 0 4 = y ∧ dv s 5 2 = m ∧ dv s 8 2 = d ∧ s = txt y m d := by
  have c0 : chr s 0 = (s[0].toNat : Int) := chr_at (by omega)
  have c1 : chr s 1 = (s[1].toNat : Int) := chr_at (by omega)
  have c2 : chr s 2 = (s[2].toNat : Int) := chr_at (by omega)
  have c3 : chr s 3 = (s[3].toNat : Int) := chr_at (by omega)
  have c4 : chr s 4 = (s[4].toNat : Int) := chr_at (by omega)
  have c5 : chr s 5 = (s[5].toNat : Int) := chr_at (by omega)
  have c6 : chr s 6 = (s[6].toNat : Int) := chr_at (by omega)
  have c7 : chr s 7 = (s[7].toNat : Int) := chr_at (by omega)
  have c8 : chr s 8 = (s[8].toNat : Int) := chr_at (by omega)
  have c9 : chr s 9 = (s[9].toNat : Int) := chr_at (by omega)
  obtain ⟨F0, F1, F2, F3, F4, F5, F6, F7, F8, F9⟩ := F
  unfold Dig at F0 F1 F2 F3 F5 F6 F8 F9
  have ex : ∀ i, 48 ≤ chr s i ∧ chr s i ≤ 57 → ∃ x : Nat, x < 10 ∧ chr s i = 48 + x := fun i hi => ⟨(chr s i - 48).toNat, by omega, by omega⟩
  obtain ⟨x0, l0, e0⟩ := ex 0 F0
  obtain ⟨x1, l1, e1⟩ := ex 1 F1
  obtain ⟨x2, l2, e2⟩ := ex 2 F2
  obtain ⟨x3, l3, e3⟩ := ex 3 F3
  obtain ⟨x5, l5, e5⟩ := ex 5 F5
  obtain ⟨x6, l6, e6⟩ := ex 6 F6
  obtain ⟨x8, l8, e8⟩ := ex 8 F8
  obtain ⟨x9, l9, e9⟩ := ex 9 F9
  refine ⟨((x0 * 10 + x1) * 10 + x2) * 10 + x3, x5 * 10 + x6, x8 * 10 + x9, ?_, ?_, ?_, ?_⟩
  · simp only [dv, Nat.add_zero, Nat.zero_add, Nat.reduceAdd, e0, e1, e2, e3]
    omega
  · simp only [dv, Nat.add_zero, Nat.zero_add, Nat.reduceAdd, e5, e6]
    omega
  · simp only [dv, Nat.add_zero, Nat.zero_add, Nat.reduceAdd, e8, e9]
    omega
  · rw [ten_bytes s h]
    unfold txt
    have b4 : s[4] = 45 := UInt8.toNat_inj.1 (by have : s[4].toNat = 45 := by omega
                                                 rw [this]; rfl)
    have b7 : s[7] = 45 := UInt8.toNat_inj.1 (by have : s[7].toNat = 45 := by omega
                                                 rw [this]; rfl)
    rw [cg_at (((x0 * 10 + x1) * 10 + x2) * 10 + x3) 3 x0 s[0] (by omega) (by omega), cg_at (((x0 * 10 + x1) * 10 + x2) * 10 + x3) 2 x1 s[1] (by omega) (by omega), cg_at (((x0 * 10 + x1) * 10 + x2) * 10 + x3) 1 x2 s[2] (by omega) (by omega), cg_at (((x0 * 10 + x1) * 10 + x2) * 10 + x3) 0 x3 s[3] (by omega) (by omega), b4, cg_at (x5 * 10 + x6) 1 x5 s[5] (by omega) (by omega), cg_at (x5 * 10 + x6) 0 x6 s[6] (by omega) (by omega), b7, cg_at (x8 * 10 + x9) 1 x8 s[8] (by omega) (by omega), cg_at (x8 * 10 + x9) 0 x9 s[9] (by omega) (by omega)]
theorem Parse_txt (n : Int) (y m d : Nat) (w : World) (D : Date n y m d) :
    Calls Tryd.prog 4 #[.string (txt y m d)] w fun e w' => e = .returned (.tuple #[.int .i64 n, .int .i64 0]) ∧ Below w.heap.size w w' := by
  have h31 := D.d31
  have D' := D
  obtain ⟨hy1, hy2, hm1, hm2, hd1, hd2, he⟩ := D'
  exact Parse_yes (txt y m d) n y m d w rfl (txt_form y m d) (txt_y y m d (by omega)) (txt_m y m d (by omega)) (txt_d y m d (by omega)) (fun w => Number_ok n y m d w D)
end Go.Proofs.YtfmmkbhaaifggaaDoor
