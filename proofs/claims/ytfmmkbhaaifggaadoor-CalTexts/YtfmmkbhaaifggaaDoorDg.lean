/- CalTexts: the law's walk. -/
import Derived.Test.YtfmmkbhaaifggaaDoorDe
import Derived.Test.YtfmmkbhaaifggaaDoorDf
namespace Go.Proofs.YtfmmkbhaaifggaaDoor
open Go.RowKit
set_option linter.unusedVariables false
set_option linter.unusedSimpArgs false

/-- both readings of a text answer alike -/
theorem parse_both (s : ByteArray) : ∃ a e : Int, (∀ w, Calls Tryd.prog 4 #[.string s] w fun r w' => r = .returned (.tuple #[.int .i64 a, .int .i64 e]) ∧ Below w.heap.size w w')
    ∧ (∀ w, Calls Tryd.prog 5 #[.string s] w fun r w' => r = .returned (.tuple #[.int .i64 a, .int .i64 e]) ∧ Below w.heap.size w w')
    ∧ (e = 0 → ∃ y m d : Nat, Date a y m d ∧ s = txt y m d) := by
  by_cases h : s.size = 10
  · by_cases F : Form s
    · obtain ⟨y, m, d, hy, hm, hd, hs⟩ := txt_of s h F
      obtain ⟨a, e, hD, A, B⟩ := number_both y m d
      by_cases he : e = 0
      · subst he
        exact ⟨a, 0, fun w => Parse_yes s a y m d w h F hy hm hd A, fun w => docparse_yes s a y m d w h F hy hm hd B, fun _ => ⟨y, m, d, hD rfl, hs⟩⟩
      · exact ⟨0, 9, fun w => Parse_no s a e y m d w h F he hy hm hd A, fun w => docparse_date s a e y m d w h F he hy hm hd B, fun h => absurd h (by decide)⟩
    · exact ⟨0, 6, fun w => Parse_text s w (fun x => F x.2), fun w => docparse_no s w h F, fun h => absurd h (by decide)⟩
  · exact ⟨0, 6, fun w => Parse_text s w (fun x => h x.1), fun w => docparse_len s w h, fun h => absurd h (by decide)⟩
/-- a day is written alike, and read back -/
theorem write_both (n : Int) (h : 1 ≤ n ∧ n ≤ 3652059) : ∃ t : ByteArray, (∀ w, Pt10 w → Calls Tryd.prog 7 #[.int .i64 n] w fun r w' => r = .returned (.tuple #[.string t, .int .i64 0]) ∧ Below w.heap.size w w')
    ∧ (∀ w, Calls Tryd.prog 9 #[.int .i64 n] w fun r w' => r = .returned (.string t) ∧ Below w.heap.size w w')
    ∧ (∀ w, Calls Tryd.prog 4 #[.string t] w fun r w' => r = .returned (.tuple #[.int .i64 n, .int .i64 0]) ∧ Below w.heap.size w w') := by
  obtain ⟨y, m, d, D⟩ := date_ex n h.1 h.2
  have D' := D
  obtain ⟨hy1, hy2, hm1, hm2, hd1, hd2, he⟩ := D'
  obtain ⟨y, rfl⟩ : ∃ k : Nat, y = k := ⟨y.toNat, by omega⟩
  obtain ⟨m, rfl⟩ : ∃ k : Nat, m = k := ⟨m.toNat, by omega⟩
  obtain ⟨d, rfl⟩ : ∃ k : Nat, d = k := ⟨d.toNat, by omega⟩
  exact ⟨txt y m d, fun w hT => Write_ok n y m d w D hT, fun w => rWrite_ok n y m d w D, fun w => Parse_txt n y m d w D⟩
set_option maxHeartbeats 4000000 in
theorem texts_tail (n : Int) (s : ByteArray) (a e : Int) (w : World) (hT : Pt10 w)
    (A : ∀ w, Calls Tryd.prog 4 #[.string s] w fun r w' => r = .returned (.tuple #[.int .i64 a, .int .i64 e]) ∧ Below w.heap.size w w')
    (B : ∀ w, Calls Tryd.prog 5 #[.string s] w fun r w' => r = .returned (.tuple #[.int .i64 a, .int .i64 e]) ∧ Below w.heap.size w w')
    (C : e = 0 → ∀ w, Pt10 w → Calls Tryd.prog 7 #[.int .i64 a] w fun r w' => r = .returned (.tuple #[.string s, .int .i64 0]) ∧ Below w.heap.size w w') :
    Calls Tryd.prog 3 #[.int .i64 n, .string s] w fun r w' => r = .returned (.bool true) ∧ Below w.heap.size w w' := by
  have BB0 := (show Hid _ from Below.refl w.heap.size w)
  have TT0 : Hid (Pt10 w) := hT
  clear hT
  by_cases he : e = 0
  · subst he
    have CC := C rfl
    clear C
    by_cases hn0 : 1 ≤ n ∧ n ≤ 3652059
    · obtain ⟨t, X, Y, Z⟩ := write_both n hn0
      have hn := (show Hid _ from hn0)
      clear hn0
      go_enter Tryd.func3, Tryd.ntmps3
      go_wp2_with fail
      refine (A _).mono ?_
      rintro r w1 ⟨rfl, b1⟩
      have BB1 := (show Hid _ from BB0.out.trans (b1.mono BB0.out.size))
      have TT1 : Hid (Pt10 w1) := Pt10.on TT0.out b1
      clear b1 BB0 TT0
      go_wp2_with fail
      refine (B _).mono ?_
      rintro r w2 ⟨rfl, b2⟩
      have BB2 := (show Hid _ from BB1.out.trans (b2.mono BB1.out.size))
      have TT2 : Hid (Pt10 w2) := Pt10.on TT1.out b2
      clear b2 BB1 TT1
      go_wp2_with fail
      refine (awake03 _).mono ?_
      rintro r w9 ⟨rfl, hq⟩
      obtain rfl := hq.symm
      clear hq
      go_wp2_with fail
      refine (CC _ TT2.out).mono ?_
      rintro r w3 ⟨rfl, b3⟩
      have BB3 := (show Hid _ from BB2.out.trans (b3.mono BB2.out.size))
      have TT3 : Hid (Pt10 w3) := Pt10.on TT2.out b3
      clear b3 BB2 TT2
      go_wp2_with fail
      refine (X _ TT3.out).mono ?_
      rintro r w4 ⟨rfl, b4⟩
      have BB4 := (show Hid _ from BB3.out.trans (b4.mono BB3.out.size))
      have TT4 : Hid (Pt10 w4) := Pt10.on TT3.out b4
      clear b4 BB3 TT3
      go_wp2_with fail
      refine (rIs_yes n _ hn.out.1 hn.out.2).mono ?_
      rintro r w9 ⟨rfl, hq⟩
      obtain rfl := hq.symm
      clear hq
      go_wp2_with fail
      refine (Z _).mono ?_
      rintro r w5 ⟨rfl, b5⟩
      have BB5 := (show Hid _ from BB4.out.trans (b5.mono BB4.out.size))
      have TT5 : Hid (Pt10 w5) := Pt10.on TT4.out b5
      clear b5 BB4 TT4
      go_wp2_with fail
      refine (Y _).mono ?_
      rintro r w6 ⟨rfl, b6⟩
      have BB6 := (show Hid _ from BB5.out.trans (b6.mono BB5.out.size))
      have TT6 : Hid (Pt10 w6) := Pt10.on TT5.out b6
      clear b6 BB5 TT5
      go_wp2_with fail
      go_ret
      exact ⟨by simp, BB6.out⟩
    · have hn := (show Hid _ from hn0)
      clear hn0
      go_enter Tryd.func3, Tryd.ntmps3
      go_wp2_with fail
      refine (A _).mono ?_
      rintro r w1 ⟨rfl, b1⟩
      have BB1 := (show Hid _ from BB0.out.trans (b1.mono BB0.out.size))
      have TT1 : Hid (Pt10 w1) := Pt10.on TT0.out b1
      clear b1 BB0 TT0
      go_wp2_with fail
      refine (B _).mono ?_
      rintro r w2 ⟨rfl, b2⟩
      have BB2 := (show Hid _ from BB1.out.trans (b2.mono BB1.out.size))
      have TT2 : Hid (Pt10 w2) := Pt10.on TT1.out b2
      clear b2 BB1 TT1
      go_wp2_with fail
      refine (awake03 _).mono ?_
      rintro r w9 ⟨rfl, hq⟩
      obtain rfl := hq.symm
      clear hq
      go_wp2_with fail
      refine (CC _ TT2.out).mono ?_
      rintro r w3 ⟨rfl, b3⟩
      have BB3 := (show Hid _ from BB2.out.trans (b3.mono BB2.out.size))
      have TT3 : Hid (Pt10 w3) := Pt10.on TT2.out b3
      clear b3 BB2 TT2
      go_wp2_with fail
      refine (Write_no n _ hn.out).mono ?_
      rintro r w9 ⟨rfl, hq⟩
      obtain rfl := hq.symm
      clear hq
      go_wp2_with fail
      refine (rIs_no n _ hn.out).mono ?_
      rintro r w9 ⟨rfl, hq⟩
      obtain rfl := hq.symm
      clear hq
      go_wp2_with fail
      go_ret
      exact ⟨by simp, BB3.out⟩
  · clear C
    by_cases hn0 : 1 ≤ n ∧ n ≤ 3652059
    · obtain ⟨t, X, Y, Z⟩ := write_both n hn0
      have hn := (show Hid _ from hn0)
      clear hn0
      go_enter Tryd.func3, Tryd.ntmps3
      go_wp2_with fail
      refine (A _).mono ?_
      rintro r w1 ⟨rfl, b1⟩
      have BB1 := (show Hid _ from BB0.out.trans (b1.mono BB0.out.size))
      have TT1 : Hid (Pt10 w1) := Pt10.on TT0.out b1
      clear b1 BB0 TT0
      go_wp2_with fail
      refine (B _).mono ?_
      rintro r w2 ⟨rfl, b2⟩
      have BB2 := (show Hid _ from BB1.out.trans (b2.mono BB1.out.size))
      have TT2 : Hid (Pt10 w2) := Pt10.on TT1.out b2
      clear b2 BB1 TT1
      go_wp2_with fail
      refine (awake03 _).mono ?_
      rintro r w9 ⟨rfl, hq⟩
      obtain rfl := hq.symm
      clear hq
      go_wp2_with fail
      refine (X _ TT2.out).mono ?_
      rintro r w3 ⟨rfl, b3⟩
      have BB3 := (show Hid _ from BB2.out.trans (b3.mono BB2.out.size))
      have TT3 : Hid (Pt10 w3) := Pt10.on TT2.out b3
      clear b3 BB2 TT2
      go_wp2_with fail
      refine (rIs_yes n _ hn.out.1 hn.out.2).mono ?_
      rintro r w9 ⟨rfl, hq⟩
      obtain rfl := hq.symm
      clear hq
      go_wp2_with fail
      refine (Z _).mono ?_
      rintro r w4 ⟨rfl, b4⟩
      have BB4 := (show Hid _ from BB3.out.trans (b4.mono BB3.out.size))
      have TT4 : Hid (Pt10 w4) := Pt10.on TT3.out b4
      clear b4 BB3 TT3
      go_wp2_with fail
      refine (Y _).mono ?_
      rintro r w5 ⟨rfl, b5⟩
      have BB5 := (show Hid _ from BB4.out.trans (b5.mono BB4.out.size))
      have TT5 : Hid (Pt10 w5) := Pt10.on TT4.out b5
      clear b5 BB4 TT4
      go_wp2_with fail
      go_ret
      exact ⟨by simp, BB5.out⟩
    · have hn := (show Hid _ from hn0)
      clear hn0
      go_enter Tryd.func3, Tryd.ntmps3
      go_wp2_with fail
      refine (A _).mono ?_
      rintro r w1 ⟨rfl, b1⟩
      have BB1 := (show Hid _ from BB0.out.trans (b1.mono BB0.out.size))
      have TT1 : Hid (Pt10 w1) := Pt10.on TT0.out b1
      clear b1 BB0 TT0
      go_wp2_with fail
      refine (B _).mono ?_
      rintro r w2 ⟨rfl, b2⟩
      have BB2 := (show Hid _ from BB1.out.trans (b2.mono BB1.out.size))
      have TT2 : Hid (Pt10 w2) := Pt10.on TT1.out b2
      clear b2 BB1 TT1
      go_wp2_with fail
      refine (awake03 _).mono ?_
      rintro r w9 ⟨rfl, hq⟩
      obtain rfl := hq.symm
      clear hq
      go_wp2_with fail
      refine (Write_no n _ hn.out).mono ?_
      rintro r w9 ⟨rfl, hq⟩
      obtain rfl := hq.symm
      clear hq
      go_wp2_with fail
      refine (rIs_no n _ hn.out).mono ?_
      rintro r w9 ⟨rfl, hq⟩
      obtain rfl := hq.symm
      clear hq
      go_wp2_with fail
      go_ret
      exact ⟨by simp, BB2.out⟩
theorem texts_walk (n : Int) (s : ByteArray) (w : World) (hT : Pt10 w) :
    Calls Tryd.prog 3 #[.int .i64 n, .string s] w fun r w' => r = .returned (.bool true) ∧ Below w.heap.size w w' := by
  obtain ⟨a, e, A, B, C⟩ := parse_both s
  refine texts_tail n s a e w hT A B (fun he w hT => ?_)
  obtain ⟨y, m, d, D, hs⟩ := C he
  rw [hs]
  exact Write_ok a y m d w D hT
end Go.Proofs.YtfmmkbhaaifggaaDoor
