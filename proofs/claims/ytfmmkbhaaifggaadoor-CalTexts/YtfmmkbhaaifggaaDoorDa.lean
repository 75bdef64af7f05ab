/- Texts of days: padded, for every number that Write hands it. -/
import Derived.Test.YtfmmkbhaaifggaaDoorCi
import Derived.Shelf.Lay
import Derived.Ground.NamesProg
import Derived.Shelf.LaysM
import Derived.Shelf.Strconv.Itoa3
import Derived.Lib.AppendIntMem
import Derived.Lib.SmallJoins
namespace Go.Proofs.YtfmmkbhaaifggaaDoor
open Go.RowKit Go.Shelf
set_option linter.unusedVariables false

shelf_lay LaysM.n171 Nm 171 at Tryd as laysM171
/-- the library's table of powers of ten -/
def Pt10 (w : World) : Prop := Lib.TabIs Tryd.prog w "internal/strconv.uint64pow10" .u64 Lib.pow10Tab
theorem Pt10.on {w w' : World} (h : Pt10 w) (hb : Below w.heap.size w w') : Pt10 w' := (Lib.tabBelow_of_tabIs h) w' hb
/-- the digit of v that stands for 10 ^ k, as a letter -/
def cg (v k : Nat) : UInt8 := UInt8.ofNat (48 + v / 10 ^ k % 10)
theorem itoa_any (v : Nat) (w : World) (h : v < 10000) (hT : Pt10 w) :
    Calls Tryd.prog 27 #[.int .i64 (v : Int)] w fun e w' => e = .returned (.string ⟨(Lib.decDigits v).toArray⟩) ∧ Below w.heap.size w w' := by
  refine (Any.strconv_Itoa laysM171 (v : Int) (by omega) (by omega) w hT).mono ?_
  rintro e w' ⟨rfl, k, os, rfl⟩
  refine ⟨?_, Lib.below_grow _ _ (Nat.le_refl _) _ _⟩
  have h0 : ¬ (v : Int) < 0 := by omega
  simp [Lib.itoa, h0]
theorem dd1 {v : Nat} (h : v < 10) : Lib.decDigits v = [cg v 0] := by
  rw [Lib.decDigits_one h]
  have e0 : v / 10 ^ 0 % 10 = v := by omega
  simp only [cg, e0]
theorem dd2 {v : Nat} (h1 : 10 ≤ v) (h2 : v < 100) : Lib.decDigits v = [cg v 1, cg v 0] := by
  rw [Lib.decDigits_two (by omega) h2]
  have e0 : v / 10 ^ 0 % 10 = v % 10 := by omega
  have e1 : v / 10 ^ 1 % 10 = v / 10 := by omega
  simp only [cg, e0, e1]
theorem dd3 {v : Nat} (h1 : 100 ≤ v) (h2 : v < 1000) : Lib.decDigits v = [cg v 2, cg v 1, cg v 0] := by
  rw [Lib.decDigits, dif_neg (by omega), dd2 (by omega) (by omega)]
  have e0 : v / 10 ^ 0 % 10 = v % 10 := by omega
  have e1 : v / 10 / 10 ^ 0 % 10 = v / 10 ^ 1 % 10 := by omega
  have e2 : v / 10 / 10 ^ 1 % 10 = v / 10 ^ 2 % 10 := by omega
  simp only [cg, e0, e1, e2]; rfl
theorem dd4 {v : Nat} (h1 : 1000 ≤ v) (h2 : v < 10000) : Lib.decDigits v = [cg v 3, cg v 2, cg v 1, cg v 0] := by
  rw [Lib.decDigits, dif_neg (by omega), dd3 (by omega) (by omega)]
  have e0 : v / 10 ^ 0 % 10 = v % 10 := by omega
  have e1 : v / 10 / 10 ^ 0 % 10 = v / 10 ^ 1 % 10 := by omega
  have e2 : v / 10 / 10 ^ 1 % 10 = v / 10 ^ 2 % 10 := by omega
  have e3 : v / 10 / 10 ^ 2 % 10 = v / 10 ^ 3 % 10 := by omega
  simp only [cg, e0, e1, e2, e3]; rfl
theorem cg0 {v k : Nat} (h : v < 10 ^ k) : cg v k = 48 := by simp [cg, Nat.div_eq_of_lt h]
set_option maxRecDepth 100000 in
theorem repeat_0 (w : World) : Calls Tryd.prog 28 #[.string ⟨#[48]⟩, .int .i64 0] w fun e w' => e = .returned (.string ⟨#[]⟩) ∧ w' = w := by
  go_enter Tryd.func28, Tryd.ntmps28
  go_wp2_with go_in
  go_ret
  exact ⟨rfl, rfl⟩
set_option maxRecDepth 100000 in
theorem mul_1_2 (w : World) : Calls Tryd.prog 33 #[.int .u64 1, .int .u64 2] w fun e w' => e = .returned (.tuple #[.int .u64 0, .int .u64 2]) ∧ w' = w := by
  go_enter Tryd.func33, Tryd.ntmps33
  go_wp2_with go_in
  refine bodyPost_ret (v := .tuple #[.int .u64 0, .int .u64 2]) (by kernel_rfl) rfl ⟨rfl, rfl⟩
set_option maxRecDepth 100000 in
theorem repeat_2 (w : World) : Calls Tryd.prog 28 #[.string ⟨#[48]⟩, .int .i64 2] w fun e w' => e = .returned (.string ⟨#[48, 48]⟩) ∧ w' = w := by
  go_enter Tryd.func28, Tryd.ntmps28
  go_wp2_with fail
  refine (mul_1_2 _).mono ?_
  rintro e w1 ⟨rfl, rfl⟩
  go_wp2_with fail
  refine (hp_go _ false _ (Nat.le_of_ble_eq_true (by kernel_rfl)) (by kernel_rfl)).mono ?_
  rintro e w1 ⟨rfl, rfl⟩
  go_wp2_with fail
  refine (hp_go _ false _ (Nat.le_of_ble_eq_true (by kernel_rfl)) (by kernel_rfl)).mono ?_
  rintro e w1 ⟨rfl, rfl⟩
  go_wp2_with fail
  refine (hp_go _ true _ (Nat.le_of_ble_eq_true (by kernel_rfl)) (by kernel_rfl)).mono ?_
  rintro e w1 ⟨rfl, rfl⟩
  go_wp2_with fail
  go_ret
  exact ⟨by kernel_rfl, rfl⟩
theorem bcat (r s : List UInt8) : (⟨r.toArray⟩ : ByteArray) ++ ⟨s.toArray⟩ = ⟨(r ++ s).toArray⟩ := by
  apply ByteArray.ext
  simp
theorem pad_go (v : Nat) (W : Int) (r s : List UInt8) (w : World) (h : v < 10000) (hT : Pt10 w) (hd : Lib.decDigits v = s) (hl : (s.length : Int) ≤ W) (hW : W ≤ 4) (hrs : r.length + s.length ≤ 4)
    (hr : ∀ w, Calls Tryd.prog 28 #[.string ⟨#[48]⟩, .int .i64 (W - s.length)] w fun e w' => e = .returned (.string ⟨r.toArray⟩) ∧ w' = w) :
    Calls Tryd.prog 17 #[.int .i64 (v : Int), .int .i64 W] w fun e w' => e = .returned (.string ⟨(r ++ s).toArray⟩) ∧ Below w.heap.size w w' := by
  have hi := itoa_any v w h hT
  rw [hd] at hi
  have hz : (⟨s.toArray⟩ : ByteArray).size = s.length := rfl
  have hm : ¬ 9223372036854775807 < r.length + s.length := by omega
  go_enter Tryd.func17, Tryd.ntmps17
  go_wp2_with fail
  refine hi.mono ?_
  rintro e w1 ⟨rfl, b1⟩
  go_wp2_with fail
  refine (hr _).mono ?_
  rintro e w2 ⟨rfl, rfl⟩
  go_wp2_with fail
  go_ret
  exact ⟨congrArg (fun x => Ending.returned (Value.string x)) (bcat r s), b1⟩
theorem pad4 (v : Nat) (w : World) (h : v < 10000) (hT : Pt10 w) :
    Calls Tryd.prog 17 #[.int .i64 (v : Int), .int .i64 4] w fun e w' => e = .returned (.string ⟨#[cg v 3, cg v 2, cg v 1, cg v 0]⟩) ∧ Below w.heap.size w w' := by
  rcases Nat.lt_or_ge v 10 with h1 | h1
  · have := pad_go v 4 [48, 48, 48] _ w h hT (dd1 h1) (by simp) (by omega) (by simp) repeat_3
    rw [cg0 (v := v) (k := 3) (by omega), cg0 (v := v) (k := 2) (by omega), cg0 (v := v) (k := 1) (by omega)]
    exact this
  rcases Nat.lt_or_ge v 100 with h2 | h2
  · have := pad_go v 4 [48, 48] _ w h hT (dd2 h1 h2) (by simp) (by omega) (by simp) repeat_2
    rw [cg0 (v := v) (k := 3) (by omega), cg0 (v := v) (k := 2) (by omega)]
    exact this
  rcases Nat.lt_or_ge v 1000 with h3 | h3
  · have := pad_go v 4 [48] _ w h hT (dd3 h2 h3) (by simp) (by omega) (by simp) repeat_1
    rw [cg0 (v := v) (k := 3) (by omega)]
    exact this
  exact pad_go v 4 [] _ w h hT (dd4 h3 h) (by simp) (by omega) (by simp) repeat_0
theorem pad2 (v : Nat) (w : World) (h : v < 100) (hT : Pt10 w) :
    Calls Tryd.prog 17 #[.int .i64 (v : Int), .int .i64 2] w fun e w' => e = .returned (.string ⟨#[cg v 1, cg v 0]⟩) ∧ Below w.heap.size w w' := by
  rcases Nat.lt_or_ge v 10 with h1 | h1
  · have := pad_go v 2 [48] _ w (by omega) hT (dd1 h1) (by simp) (by omega) (by simp) repeat_1
    rw [cg0 (v := v) (k := 1) (by omega)]
    exact this
  exact pad_go v 2 [] _ w (by omega) hT (dd2 h1 h) (by simp) (by omega) (by simp) repeat_0
/-- the text of a date -/
def txt (y m d : Nat) : ByteArray := ⟨#[cg y 3, cg y 2, cg y 1, cg y 0, 45, cg m 1, cg m 0, 45, cg d 1, cg d 0]⟩
set_option maxHeartbeats 4000000 in
theorem Write_ok (n : Int) (y m d : Nat) (w : World) (D : Date n y m d) (hT : Pt10 w) :
    Calls Tryd.prog 7 #[.int .i64 n] w fun e w' => e = .returned (.tuple #[.string (txt y m d), .int .i64 0]) ∧ Below w.heap.size w w' := by
  obtain ⟨b1, b2⟩ := D.bounds
  have h31 := D.d31
  obtain ⟨hy1, hy2, hm1, hm2, hd1, hd2, he⟩ := id D
  clear hd2 he
  have p1 := fun w h => pad4 y w (by omega) h
  have p2 := fun w h => pad2 m w (by omega) h
  have p3 := fun w h => pad2 d w (by omega) h
  unfold txt
  generalize cg y 3 = y3 at p1 ⊢
  generalize cg y 2 = y2 at p1 ⊢
  generalize cg y 1 = y1 at p1 ⊢
  generalize cg y 0 = y0 at p1 ⊢
  generalize cg m 1 = m1 at p2 ⊢
  generalize cg m 0 = m0 at p2 ⊢
  generalize cg d 1 = d1 at p3 ⊢
  generalize cg d 0 = d0 at p3 ⊢
  go_enter Tryd.func7, Tryd.ntmps7
  go_wp2_with fail
  refine (isDay_yes n _ b1 b2).mono ?_
  rintro e w1 ⟨rfl, rfl⟩
  go_wp2_with fail
  refine (civil_ok n y m d _ D).mono ?_
  rintro e w1 ⟨rfl, rfl⟩
  go_wp2_with fail
  refine (p1 _ hT).mono ?_
  rintro e w1 ⟨rfl, c1⟩
  go_wp2_with fail
  refine (p2 _ (hT.on c1)).mono ?_
  rintro e w2 ⟨rfl, c2⟩
  have c2' := c1.trans (c2.mono c1.size)
  clear c2
  go_wp2_with fail
  refine (p3 _ (hT.on c2')).mono ?_
  rintro e w3 ⟨rfl, c3⟩
  have c3' := c2'.trans (c3.mono c2'.size)
  clear c3
  go_wp2_with fail
  refine bodyPost_ret (v := .tuple #[.string ⟨#[y3, y2, y1, y0, 45, m1, m0, 45, d1, d0]⟩, .int .i64 0]) (by simp [results, Tryd.results7, go_sem]; rfl) rfl ⟨rfl, c3'⟩
theorem isDay_no (y : Int) (w : World) (h : ¬ (1 ≤ y ∧ y ≤ 3652059)) :
    Calls Tryd.prog 15 #[.int .i64 y] w fun e w' => e = .returned (.bool false) ∧ w' = w := by
  by_cases h1 : 1 ≤ y
  · have h2 : ¬ y ≤ 3652059 := fun h2 => h ⟨h1, h2⟩
    clear h
    go_enter Tryd.func15, Tryd.ntmps15
    go_wp2_with fail
    go_ret
    exact ⟨rfl, rfl⟩
  · clear h
    go_enter Tryd.func15, Tryd.ntmps15
    go_wp2_with fail
    go_ret
    exact ⟨rfl, rfl⟩
theorem Write_no (n : Int) (w : World) (h : ¬ (1 ≤ n ∧ n ≤ 3652059)) :
    Calls Tryd.prog 7 #[.int .i64 n] w fun e w' => e = .returned (.tuple #[.string ⟨#[]⟩, .int .i64 1]) ∧ w' = w := by
  go_enter Tryd.func7, Tryd.ntmps7
  go_wp2_with fail
  refine (isDay_no n _ h).mono ?_
  rintro e w1 ⟨rfl, rfl⟩
  go_wp2_with fail
  refine bodyPost_ret (v := .tuple #[.string ⟨#[]⟩, .int .i64 1]) (by simp [results, Tryd.results7, go_sem]) rfl ⟨rfl, rfl⟩
end Go.Proofs.YtfmmkbhaaifggaaDoor
