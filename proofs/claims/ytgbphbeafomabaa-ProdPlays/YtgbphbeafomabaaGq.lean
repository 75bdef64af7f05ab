/- prod: awake. -/
import Derived.Test.YtgbphbeafomabaaGp
import Derived.Test.YtgbphbeafomabaaGed
namespace Go.Proofs.Ytgbphbeafomabaa
open Go.RowKit Go.Shelf
set_option linter.unusedVariables false

theorem plain_wf {id day : Int} (h1 : I64 id) (h2 : I64 day) : (plainV id day).wf := by
  unfold I64 at h1 h2
  constructor <;> unfold I64 plainV <;> simp <;> omega
theorem plain_chk {id day : Int} (h1 : 1 ≤ id ∧ id ≤ 1000000000) (h2 : 1 ≤ day ∧ day ≤ 3652059) : chk (plainV id day) = 0 := by
  have e1 : wi id 1 1000000000 = true := by simpa [wi] using h1
  have e2 : wi day 1 3652059 = true := by simpa [wi] using h2
  unfold chk
  rw [if_pos]
  · show terr [(0, 5)] = 0
    decide
  · unfold PV.inr plainV
    dsimp only
    rw [e1, e2]
    decide
theorem no_nil {b : Addr} {n c : Nat} : ∀ n' c', Value.slice (some b) n c = .slice none n' c' → c' = 0 := fun _ _ h => by cases h
set_option maxRecDepth 100000 in
set_option maxHeartbeats 2000000 in
theorem awake_ok (w : World) : Calls Try.prog 9 #[] w fun e w' => e = .returned (.bool true) ∧ Below w.heap.size w w' := by
  have W1 := plain_wf (id := 7) (day := 10) (by unfold I64; omega) (by unfold I64; omega)
  have W2 := plain_wf (id := 7) (day := 20) (by unfold I64; omega) (by unfold I64; omega)
  have K1 := plain_chk (id := 7) (day := 10) (by omega) (by omega)
  have K2 := plain_chk (id := 7) (day := 20) (by omega) (by omega)
  have hW1 := (show Hid _ from W1)
  have hW2 := (show Hid _ from W2)
  have hK1 := (show Hid _ from K1)
  have hK2 := (show Hid _ from K2)
  have hF1 : Hid (fol [] (plainV 7 10) = 0) := by show fol [] (plainV 7 10) = 0; decide
  have hF2 : Hid (fol [plainV 7 10] (plainV 7 20) = 0) := by show fol [plainV 7 10] (plainV 7 20) = 0; decide
  have hE3 : Hid (addE [plainV 7 10, plainV 7 20] (plainV 7 20) = 8) := by
    show addE [plainV 7 10, plainV 7 20] (plainV 7 20) = 8
    unfold addE
    rw [K2]
    decide
  have hH1 : Hid (hold [plainV 7 10, plainV 7 20] 7 19 = some (plainV 7 10)) := by show hold [plainV 7 10, plainV 7 20] 7 19 = some (plainV 7 10); rfl
  have hH2 : Hid (hold [plainV 7 10, plainV 7 20] 7 20 = some (plainV 7 20)) := by show hold [plainV 7 10, plainV 7 20] 7 20 = some (plainV 7 20); rfl
  clear W1 W2 K1 K2
  go_enter Try.func9, Try.ntmps9
  go_wp2_with fail
  refine (new_ok _).mono ?_
  rintro e w0 ⟨⟨p, rfl, C0⟩, B0⟩
  have hC0 := (show Hid _ from C0)
  have hD0 := (show Hid _ from B0)
  clear C0 B0
  go_wp2_with fail
  refine (plain_ok 7 10 _).mono ?_
  rintro e w1 ⟨⟨b1, rfl, t1, _⟩, n1⟩
  have C1 := (show Hid _ from hC0.out.step n1)
  have D1 := (show Hid _ from hD0.out.trans (n1.mono hD0.out.size))
  have T1 := (show Hid _ from t1)
  clear n1 t1 hC0 hD0
  go_wp2_with fail
  refine (add_yes (plainV 7 10) _ _ C1.out hW1.out T1.out no_nil hK1.out hF1.out (by simp)).mono ?_
  rintro e w2 ⟨rfl, C2, b2, _⟩
  have hC2 := (show Hid _ from C2)
  have D2 := (show Hid _ from D1.out.trans b2)
  clear C2 b2 C1 D1 T1
  go_wp2_with fail
  refine (plain_ok 7 20 _).mono ?_
  rintro e w3 ⟨⟨b3, rfl, t3, _⟩, n3⟩
  have C3 := (show Hid _ from hC2.out.step n3)
  have D3 := (show Hid _ from D2.out.trans (n3.mono D2.out.size))
  have T3 := (show Hid _ from t3)
  clear n3 t3 hC2 D2
  go_wp2_with fail
  refine (add_yes (plainV 7 20) _ _ C3.out hW2.out T3.out no_nil hK2.out hF2.out (by simp)).mono ?_
  rintro e w4 ⟨rfl, C4, b4, _⟩
  have hC4 := (show Hid _ from C4)
  have D4 := (show Hid _ from D3.out.trans b4)
  clear C4 b4 C3 D3 T3
  go_wp2_with fail
  refine (plain_ok 7 20 _).mono ?_
  rintro e w5 ⟨⟨b5, rfl, t5, _⟩, n5⟩
  have C5 := (show Hid _ from hC4.out.step n5)
  have D5 := (show Hid _ from D4.out.trans (n5.mono D4.out.size))
  have T5 := (show Hid _ from t5)
  clear n5 t5 hC4 D4
  go_wp2_with fail
  refine (add_no (plainV 7 20) _ _ C5.out hW2.out T5.out (by show addE [plainV 7 10, plainV 7 20] (plainV 7 20) ≠ 0; rw [hE3.out]; decide)).mono ?_
  rintro e w6 ⟨rfl, b6⟩
  rw [show addE ([] ++ [plainV 7 10] ++ [plainV 7 20]) (plainV 7 20) = 8 from hE3.out]
  have C6 := (show Hid _ from C5.out.step b6)
  have D6 := (show Hid _ from D5.out.trans (b6.mono D5.out.size))
  clear b6 C5 D5 T5
  go_wp2_with fail
  refine (at_ok 7 19 _ C6.out).mono ?_
  rintro e w7 ⟨ha, b7⟩
  have C7 := (show Hid _ from C6.out.step b7)
  have D7 := (show Hid _ from D6.out.trans (b7.mono D6.out.size))
  clear b7 C6 D6
  obtain ⟨v7, rfl, o7⟩ : ∃ v, e = .returned (.tuple #[.agg ((plainV 7 10).cells v).toArray, .int .i64 0]) ∧ OwnT w7 w6.heap.size v (plainV 7 10).ts := by
    rcases ha with ⟨h, _⟩ | ⟨_, h, _⟩ | ⟨_, x, v, _, h, e, o⟩
    · exact absurd h (by decide)
    · rw [show hold ([] ++ [plainV 7 10] ++ [plainV 7 20]) 7 19 = some (plainV 7 10) from hH1.out] at h
      cases h
    · rw [show hold ([] ++ [plainV 7 10] ++ [plainV 7 20]) 7 19 = some (plainV 7 10) from hH1.out] at h
      cases h
      exact ⟨v, e, o⟩
  obtain ⟨a7, n7, c7, rfl⟩ := o7.form
  clear o7
  go_wp2_with (refine stA rfl 25 _ _ rfl w7.heap.size (by rfl) _ ((plainV 7 10).cells (.slice a7 n7 c7)) (by rfl) 25 (va_new w7 [.int .i64 0, .int .i64 0, .int .i64 0, .int .i64 0, .int .i64 0, .int .i64 0, .int .i64 0, .int .i64 0, .slice none 0 0] 25) infoP rfl (pv_one _ ⟨_, _, _, rfl⟩) ?_; intro w8 V8 U8)
  have B8 : Below w7.heap.size w7 w8 := U8.bel ((Below.refl _ _).alloc (Nat.le_refl _) _) (Nat.le_refl _)
  have C8 := (show Hid _ from C7.out.step B8)
  have D8 := (show Hid _ from D7.out.trans (B8.mono D7.out.size))
  have hV8 := (show Hid _ from V8)
  clear V8 U8 B8 C7 D7
  refine (at_ok 7 20 _ C8.out).mono ?_
  rintro e w9 ⟨ha, b9⟩
  have V9 := (show Hid _ from hV8.out.step b9)
  have D9 := (show Hid _ from D8.out.trans (b9.mono D8.out.size))
  clear b9 C8 D8 hV8
  obtain ⟨v9, rfl, o9⟩ : ∃ v, e = .returned (.tuple #[.agg ((plainV 7 20).cells v).toArray, .int .i64 0]) ∧ OwnT w9 w8.heap.size v (plainV 7 20).ts := by
    rcases ha with ⟨h, _⟩ | ⟨_, h, _⟩ | ⟨_, x, v, _, h, e, o⟩
    · exact absurd h (by decide)
    · rw [show hold ([] ++ [plainV 7 10] ++ [plainV 7 20]) 7 20 = some (plainV 7 20) from hH2.out] at h
      cases h
    · rw [show hold ([] ++ [plainV 7 10] ++ [plainV 7 20]) 7 20 = some (plainV 7 20) from hH2.out] at h
      cases h
      exact ⟨v, e, o⟩
  obtain ⟨a9, n9, c9, rfl⟩ := o9.form
  clear o9
  have V10 := (show Hid _ from V9.out.alloc (.cells #[.int .i64 0, .int .i64 0, .int .i64 0, .int .i64 0, .int .i64 0, .int .i64 0, .int .i64 0, .int .i64 0, .slice none 0 0] 25))
  have D10 := (show Hid _ from D9.out.alloc D9.out.size (.cells #[.int .i64 0, .int .i64 0, .int .i64 0, .int .i64 0, .int .i64 0, .int .i64 0, .int .i64 0, .int .i64 0, .slice none 0 0] 25))
  have l9 := V9.out.lt
  go_upto_region 6 with (refine stA rfl 25 _ _ rfl w9.heap.size (by rfl) _ ((plainV 7 20).cells (.slice a9 n9 c9)) (by rfl) 25 (va_new w9 [.int .i64 0, .int .i64 0, .int .i64 0, .int .i64 0, .int .i64 0, .int .i64 0, .int .i64 0, .int .i64 0, .slice none 0 0] 25) infoP rfl (pv_one _ ⟨_, _, _, rfl⟩) ?_; intro w10 V11 U11)
  have y1 := (V10.out.upd U11 (by omega)).cell 3 (v := .int .i64 10) rfl
  have y2 := V11.cell 3 (v := .int .i64 20) rfl
  have D11 := (show Hid _ from U11.bel D10.out D9.out.size)
  clear V10 V11 U11
  go_wp2_with fail
  go_ret
  exact ⟨rfl, D11.out⟩
end Go.Proofs.Ytgbphbeafomabaa
