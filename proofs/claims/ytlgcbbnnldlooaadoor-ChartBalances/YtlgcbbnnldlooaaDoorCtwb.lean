/- the document's ledger: Balance, DocBalance, Trial. -/
import Derived.Test.YtlgcbbnnldlooaaDoorCtwa
namespace Go.Proofs.YtlgcbbnnldlooaaDoor
open Go.RowKit Go.Maps
set_option linter.unusedVariables false
attribute [local go_sem] ext_cell ext_frozen ext_drew ext_of_drew ext_of_drewN ext_setCell ext_lt ext_lt1 ext_lt2 ext_lt3 lt_n2 lt_n3 lt_n4 lt_n5 lt_n6

theorem DL.at {w : World} {p : Nat} {b : Int → Int → Int} {n : Int} (h : DL w p b n) (c u : Nat) (h1 : 1 ≤ c) (h8 : c ≤ 8) (hu : u ≤ 3) : ∃ m a k s, w.cell? ⟨p, c * 8 + u * 2, none⟩ = some (.bool m) ∧ w.cell? ⟨p, c * 8 + u * 2 + 1, none⟩ = some (.slice a k s) ∧ In w (.agg #[.bool m, .slice a k s]) (b (c : Int) (u : Int)) := by
  obtain ⟨m, a, k, s, e1, e2, e3⟩ := h.ib.at (4 * c + u) (by omega)
  rw [show (4 * c + u) * 2 = c * 8 + u * 2 by omega] at e1 e2
  unfold lf at e3
  rw [if_neg (by omega), show (4 * c + u) / 4 = c by omega, show (4 * c + u) % 4 = u by omega] at e3
  exact ⟨m, a, k, s, e1, e2, e3⟩
theorem DL.inr {w : World} {p : Nat} {b : Int → Int → Int} {n : Int} (h : DL w p b n) {c u : Int} (hv : Va c u) : InR (b c u) := by
  have := h.rng c u hv
  exact inr36 (by unfold M36 at *; omega)
theorem DL.ent {w : World} {p : Nat} {b : Int → Int → Int} {n : Int} (h : DL w p b n) : w.cell? ⟨p, 72, none⟩ = some (.int .i64 n) := by
  obtain ⟨cs, k1, k2, _⟩ := h.ib.ex
  exact k1.cell 72 (by rw [List.getElem?_append_right (by omega), k2]; rfl)
set_option maxHeartbeats 2000000 in
set_option maxRecDepth 100000 in
theorem rbal_ok (p : Nat) (b : Int → Int → Int) (n : Int) (w : World) (D : DL w p b n) (c u : Nat) (h1 : 1 ≤ c) (h8 : c ≤ 8) (hu : u ≤ 3) :
    Calls Tryd.prog 39 #[.pointer (some ⟨p, 0, none⟩), .int .i64 (c : Int), .int .i64 (u : Int)] w fun e w' => e = .returned (dv (b c u) 12) ∧ Below w.heap.size w w' := by
  have hv : Va (c : Int) (u : Int) := by unfold Va; omega
  have BA := (Below.refl w.heap.size w).alloc (Nat.le_refl _) (.cells #[.int .i64 0, .int .u64 0, .int .i64 0] 37)
  obtain ⟨m, a, k, s, e1, e2, e3⟩ := (D.step BA).at c u h1 h8 hu
  obtain ⟨z, hz⟩ : ∃ z, z = b (c : Int) (u : Int) := ⟨_, rfl⟩
  rw [← hz] at e3 ⊢
  have HI := (show Hid _ from e3)
  have HZ : Hid (InR z) := by rw [hz]; exact D.inr hv
  have HR := (show Hid _ from va_new w [.int .i64 0, .int .u64 0, .int .i64 0] 37)
  have HB := (show Hid _ from BA)
  have d1 : (0 : Int) ≤ (c : Int) := by omega
  have d2 : (c : Int) < 9 := by omega
  have d3 : (0 : Int) ≤ (u : Int) := by omega
  have d4 : (u : Int) < 4 := by omega
  clear e3 hz hv BA D
  go_enter Tryd.func39, Tryd.ntmps39
  go_wp2_with fail
  refine (decr_ok _ _ _ _ HI.out HZ.out).mono ?_
  rintro e w1 ⟨rfl, b1⟩
  have HR1 := (show Hid _ from (HR.out.step b1).alloc (.cells #[.int .i64 (dhi z), .int .u64 (dlo z), .int .i64 12] 37))
  have HB1 := (show Hid _ from (HB.out.trans (b1.mono HB.out.size)).alloc (by have := HB.out.size; have := b1.size; omega) (.cells #[.int .i64 (dhi z), .int .u64 (dlo z), .int .i64 12] 37))
  clear b1 e1 e2 HR HB HI
  go_wp2_with (refine stA rfl 37 _ _ rfl w.heap.size (by rfl) [.int .i64 0, .int .u64 0, .int .i64 0] [.int .i64 (dhi z), .int .u64 (dlo z), .int .i64 12] (by rfl) 37 HR1.out infoDe rfl (dec_one z) ?_; intro w2 v2 u2)
  have hld := run_loadVar_row (P := Tryd.prog) w2 w.heap.size 37 37 _ (0, 0) _ v2.blk Tryd.underlying37 rfl infoDe
  exact bodyPost_ret (v := .agg #[.int .i64 (dhi z), .int .u64 (dlo z), .int .i64 12]) (by simp [results, Tryd.results39, asAddr, hld, Act.put]) rfl ⟨rfl, u2.bel HB1.out (Nat.le_refl _)⟩
set_option maxHeartbeats 4000000 in
set_option maxRecDepth 100000 in
theorem rtrial_ok (p : Nat) (b : Int → Int → Int) (n : Int) (w : World) (D : DL w p b n) :
    Calls Tryd.prog 36 #[.pointer (some ⟨p, 0, none⟩)] w fun e w' => (∃ v, e = .returned v ∧ Own LN w' w.heap.size v (trl b 32)) ∧ Below w.heap.size w w' := by
  have HD := (show Hid _ from D)
  clear D
  go_enter Tryd.func36, Tryd.ntmps36
  go_wp2_with fail
  go_loopw [3, 4] (fun l c wr => ∃ k : Nat, k ≤ 8 ∧ c = .int .i64 ((k : Int) + 1) ∧ Hid (Own LN wr w.heap.size l (trl b (4 * k))) ∧ Hid (Below w.heap.size w wr)) (fun _ c _ => 9 - (intOf c).toNat)
  case atStart => exact ⟨0, by omega, rfl, own_nil _ _ _, Below.refl _ _⟩
  case round =>
    obtain ⟨k, hk, rfl, HO, HB⟩ := hrel
    by_cases h8 : k = 8
    · subst h8
      go_wp2_with fail
      go_ret
      exact ⟨⟨_, rfl, HO.out⟩, HB.out⟩
    have hk' : k < 8 := by omega
    have q8 : ((k : Int) + 1) ≤ 8 := by omega
    go_wp2_with fail
    go_loopw [3, 14] (fun l u wr => ∃ m : Nat, m ≤ 4 ∧ u = .int .i64 (m : Int) ∧ Hid (Own LN wr w.heap.size l (trl b (4 * k + m))) ∧ Hid (Below w.heap.size w wr)) (fun _ u _ => 4 - (intOf u).toNat)
    case atStart => exact ⟨0, by omega, rfl, HO.out, HB.out⟩
    case round =>
      obtain ⟨u, hu, rfl, HO1, HB1⟩ := hrel
      by_cases h4 : u = 4
      · subst h4
        go_wp2_with fail
        refine ⟨⟨k + 1, by omega, by go_num, ?_, HB1.out⟩, by simp [intOf]; omega⟩
        rw [show 4 * (k + 1) = 4 * k + 4 by omega]
        exact HO1.out
      have hu' : u < 4 := by omega
      obtain ⟨m, a, kk, s, e1, e2, e3⟩ := (HD.out.step HB1.out).at (k + 1) u (by omega) (by omega) (by omega)
      rw [show ((k + 1 : Nat) : Int) = (k : Int) + 1 by omega] at e3
      have hac : acc (4 * k + u) = ((k : Int) + 1, (u : Int)) := by
        unfold acc
        rw [show (4 * k + u) / 4 = k by omega, show (4 * k + u) % 4 = u by omega]
      have HYES := (show Hid _ from trl_yes b (4 * k + u))
      have HNO := (show Hid _ from trl_no b (4 * k + u))
      rw [hac] at HYES HNO
      simp only at HYES HNO
      obtain ⟨z, hz⟩ : ∃ z, z = b ((k : Int) + 1) (u : Int) := ⟨_, rfl⟩
      rw [← hz] at e3 HYES HNO
      have HZ := (show Hid _ from hz)
      have HI := (show Hid _ from e3)
      have hc1 : ((k : Int) + 1) = ((k + 1 : Nat) : Int) := by omega
      have HRB := (show Hid _ from fun w D => rbal_ok p b n w D (k + 1) u (by omega) (by omega) (by omega))
      rw [← hc1] at HRB
      have d1 : (0 : Int) ≤ (k : Int) + 1 := by omega
      have d2 : (k : Int) + 1 < 9 := by omega
      have d3 : (0 : Int) ≤ (u : Int) := by omega
      have d4 : (u : Int) < 4 := by omega
      have d5 : ((k : Int) + 1).toNat = k + 1 := by omega
      clear hac hz e3 hc1
      go_wp2_with fail
      refine (sign_in _ _ _ HI.out).mono ?_
      rintro e w2 ⟨rfl, b2⟩
      have HO2 := (show Hid _ from HO1.out.step b2)
      have HB2 := (show Hid _ from HB1.out.trans (b2.mono HB1.out.size))
      clear b2 e1 e2 HI HO1 HB1
      have hsg : (sgn z != 0) = !decide (z = 0) := by
        unfold sgn
        by_cases e : z = 0
        · subst e; decide
        · rw [decide_eq_false e, if_neg e]; split <;> rfl
      by_cases hz0 : z = 0
      · rw [decide_eq_true hz0] at hsg
        have HZ0 := (show Hid _ from hz0)
        clear hz0
        generalize sgn z = sg at *
        go_wp2_with fail
        exact ⟨⟨u + 1, by omega, by go_num, by rw [← Nat.add_assoc, HNO.out HZ0.out]; exact HO2.out, HB2.out⟩, by simp [intOf]; omega⟩
      · rw [decide_eq_false hz0] at hsg
        have HZ0 := (show Hid _ from hz0)
        clear hz0
        generalize sgn z = sg at *
        go_wp2_with fail
        refine (HRB.out _ (HD.out.step HB2.out)).mono ?_
        rintro e w3 ⟨rfl, b3⟩
        rw [← HZ.out]
        have HO3 := (show Hid _ from HO2.out.step b3)
        have HB3 := (show Hid _ from HB2.out.trans (b3.mono HB2.out.size))
        clear b3 HO2 HB2
        unfold dv
        go_wp2_with (at_builtin; refine appOne (K := LN) rfl _ _ rfl w.heap.size (trl b (4 * k + u)) _ (lnOf ((k : Int) + 1) (u : Int) z) (by rfl) (by rfl) HO3.out HB3.out.size (by have := trl_len b (4 * k + u); show ((trl b (4 * k + u)).length + 1) * 40 ≤ _; omega) (by have := trl_len b (4 * k + u); omega) _ rfl ?_; intro v6 w6 o6 b6)
        exact ⟨⟨u + 1, by omega, by go_num, by rw [← Nat.add_assoc, HYES.out HZ0.out]; exact o6, HB3.out.trans b6⟩, by simp [intOf]; omega⟩
end Go.Proofs.YtlgcbbnnldlooaaDoor
