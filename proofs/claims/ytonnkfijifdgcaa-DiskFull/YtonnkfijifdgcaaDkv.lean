/- disk XXI: the walk of DiskFull. -/
import Derived.Test.YtonnkfijifdgcaaDku
namespace Go.Proofs.Ytonnkfijifdgcaa
open Go.RowKit Go.Maps Go.Sort Go.Shelf pk
set_option linter.unusedVariables false

theorem fitA_nil (n : Nat) (l : List UInt8) (k : Nat) : fitA n [] l k = decide (k ≤ n) := by simp [fitA, totA]; exact decide_eq_decide.2 Iff.rfl
theorem fitA_one (n : Nat) (l : List UInt8) (ss : List (List Nat)) (sy k : Nat) : fitA n [(l, ss, sy)] l k = decide (k ≤ n - ss.length) := by simp [fitA, totA]; exact decide_eq_decide.2 Iff.rfl
/-- no file, or the one, with so many sectors -/
def Fl (es : List Ent) (used : Nat) : Prop := (ab es = [] ∧ used = 0) ∨ ∃ ss, ab es = [([97], ss, 0)] ∧ ss.length = used
set_option maxRecDepth 100000 in
set_option maxHeartbeats 8000000 in
theorem full_walk (r : Nat) (hr : r < 256) (v : Value) (bs : List Nat) (w : World) (hb : Bs w v bs) (hl : bs.length ≤ 140737488351232) :
    Calls Try.prog 6 #[.int .u8 (r : Int), v] w fun e w' => e = .returned (.bool true) ∧ Below w.heap.size w w' := by
  obtain ⟨hby, a, c, rfl, hc1, hc2, hno, hli⟩ := hb
  have HBS : Hid (Bs w (.slice a bs.length c) bs) := ⟨hby, a, c, rfl, hc1, hc2, hno, hli⟩
  have HBY : Hid (By bs) := hby
  have HLI := (show Hid _ from hli)
  clear hno hli hby
  generalize hL : bs.length = L at *
  have HL := (show Hid _ from hL)
  clear hL
  obtain ⟨n, hn⟩ : ∃ n : Nat, 1 + (r : Int) % 40 = (n : Int) := ⟨1 + r % 40, by omega⟩
  have hn1 : 1 ≤ n ∧ n ≤ 40 := by omega
  go_enter Try.func6, Try.ntmps6
  go_wp2_with (go_at_call 9; refine (awake_ok _).mono ?_; rintro e w1 ⟨rfl, b1⟩)
  refine (new_ok n w1 (by omega) (by omega)).mono ?_
  rintro e w2 ⟨p, m, rfl, hD2, b2⟩
  have HB1 := (show Hid _ from b1)
  have HBW : Hid (w1.heap.size ≤ w2.heap.size) := b2.size
  have HB2 := (show Hid _ from b2)
  have HD2 := (show Hid _ from hD2)
  have HBS2 : Hid (Bs w2 (.slice a L c) bs) := by
    have := (HBS.out.step b1).step b2
    exact this
  have HWB : Hid (w.heap.size ≤ w1.heap.size) := b1.size
  have HCELL : Hid (∀ k, k < L → ∃ b off, a = some ⟨b, off, none⟩ ∧ b < w1.heap.size ∧ w2.cell? ⟨b, off + k, none⟩ = some (.int .u8 (bt bs k))) := fun k hk => by
    obtain ⟨b, off, e, hb, hx⟩ := HLI.out (by omega)
    have h1 := HB1.out.size
    exact ⟨b, off, e, by omega, (HB2.out.cell (p := ⟨b, off + k, none⟩) (by show b < _; omega)).trans ((HB1.out.cell (p := ⟨b, off + k, none⟩) hb).trans (hx k hk))⟩
  clear b1 b2 hD2
  unfold ptr
  generalize w1.heap.size = B at *
  go_wp2_with fail
  go_loopw [8, 36] (fun u i wr => ∃ (k used ops : Nat) (es' : List Ent), k ≤ L ∧ i = .int .i64 (k : Int) ∧ u = .int .i64 (used : Int) ∧ used ≤ n ∧ ops ≤ k ∧ Hid (Dsk wr B p m ⟨n, ops, 0, true, .nilFunc, es'⟩) ∧ Hid (Fl es' used) ∧ Hid (Below B w2 wr)) (fun _ i _ => L - (intOf i).toNat)
  case atStart => exact ⟨0, 0, 0, [], Nat.zero_le _, rfl, rfl, by omega, by omega, HD2.out, .inl ⟨rfl, rfl⟩, Below.refl _ _⟩
  case round =>
    obtain ⟨k, used, ops, es', hkL, rfl, rfl, hun, hok, D, FX, BE⟩ := hrel
    by_cases hlt : k < L
    · have dk : (k : Int) < (L : Int) := by omega
      obtain ⟨b, off, rfl, hbB, hcell⟩ := HCELL.out k hlt
      have hcb := (BE.out.cell (p := ⟨b, off + k, none⟩) hbB).trans hcell
      have hbd := bt_bd HBY.out k
      obtain ⟨sv, hsv⟩ : ∃ sv : Int, sv = bt bs k := ⟨_, rfl⟩
      rw [← hsv] at hcb hbd
      clear hcell hsv
      by_cases h100 : 100 ≤ k
      · have d100 : (100 : Int) ≤ (k : Int) := by omega
        go_wp2_with fail
        go_ret
        exact ⟨rfl, HB1.out.trans ((HB2.out.trans BE.out).mono HWB.out)⟩
      · have d100 : (k : Int) < 100 := by omega
        obtain ⟨kk, hkk⟩ : ∃ kk : Nat, sv % 9 = (kk : Int) := ⟨(sv % 9).toNat, by omega⟩
        have hk9 : kk ≤ 8 := by omega
        have hcnt : cnt (32 * kk) = kk := by unfold cnt; omega
        have hmk : ∀ w : World, (Instr.makeSlice 31 (.int .i64 (32 * (kk : Int))) (.int .i64 (32 * (kk : Int)))).run Try.prog w = .ok (.slice (some ⟨w.heap.size, 0, none⟩) (32 * kk) (32 * kk)) (w.alloc (.cells (cl (List.replicate (32 * kk) 0)).toArray 5)) := fun w => by
          have := mk_by (32 * kk) (by omega) w
          push_cast at this
          exact this
        generalize hck : (cl (List.replicate (32 * kk) 0)).toArray = ck at hmk
        have HCK := (show Hid _ from hck)
        clear hck
        rcases FX.out with ⟨hA, hu0⟩ | ⟨ss, hA, hsl⟩
        · have du : (used : Int) ≤ 0 := by omega
          have HU0 : Hid (used = 0) := hu0
          clear hu0
          by_cases hfit : used + kk ≤ n
          · have HF1 : Hid (fd es' [97] = none) := (show fd es' [97] = none by
              have := find_ab' es' [97]
              rw [hA] at this
              cases hh : fd es' [97] with
              | none => rfl
              | some g => rw [hh] at this; cases this)
            have HA := (show Hid _ from hA)
            have HFIT : Hid (fitA n (ab es') [97] (cnt (List.replicate (32 * kk) 0).length) = true) := by
              rw [List.length_replicate, hcnt]
              show fitA n (ab es') [97] kk = _
              rw [hA, fitA_nil]
              exact decide_eq_true (by have := HU0.out; omega)
            clear hA
            have dfit : (used : Int) + (kk : Int) ≤ (n : Int) := by omega
            go_wp2_with fail
            refine (size_none _ B p m _ D.out ⟨#[97]⟩ (by decide) (by decide) HF1.out).mono ?_
            rintro e w5 ⟨rfl, rfl⟩
            go_wp2_with fail
            have O6 := own_mk (32 * kk) (by omega) w5
            rw [HCK.out] at O6
            have b6 := (Below.refl w5.heap.size w5).alloc (Nat.le_refl _) (.cells ck 5)
            refine (append_ok _ B p m _ (D.out.step b6) ⟨#[97]⟩ (by decide) (by decide) _ (List.replicate (32 * kk) 0) O6.bs O6.safe (by simp; omega) (by rw [fit_ab]; exact HFIT.out) rfl (by show ops ≤ _; omega) (by show (0 : Nat) ≤ _; omega)).mono ?_
            rintro e w7 ⟨he, ⟨es7, hab7, hD7⟩, hk7, hb7⟩
            obtain rfl : e = .returned (.int .i64 0) := he
            have hA7 : ab es7 = [([97], parts (List.replicate (32 * kk) 0), 0)] := by
              have h1 : ab es7 = apd (ab es') [97] (parts (List.replicate (32 * kk) 0)) := hab7
              rw [HA.out] at h1
              exact h1
            have hl7 : (parts (List.replicate (32 * kk) 0)).length = used + kk := by
              have h1 : (parts (List.replicate (32 * kk) 0)).length = kk := by unfold parts; rw [List.length_map, List.length_range, List.length_replicate, hcnt]
              rw [h1]; have := HU0.out; omega
            obtain ⟨f7, hf71, hf72, _, _⟩ := fd_ab (es := es7) (l := [97]) (by rw [hA7]; rfl)
            have HF7 := (show Hid _ from hf71)
            have HFL7 : Hid (f7.ss.length = used + kk) := (show f7.ss.length = used + kk by rw [hf72]; exact hl7)
            have HD7 : Hid (Dsk w7 B p m ⟨n, ops + 1, 0, true, .nilFunc, es7⟩) := hD7
            have HX7 : Hid (Fl es7 (used + kk)) := .inr ⟨_, hA7, hl7⟩
            have HB7 := (show Hid _ from (BE.out.trans (b6.mono (by have := BE.out.size; have := HBW.out; omega))).trans hb7)
            clear hab7 hD7 hk7 hb7 hA7 hl7 hf71 hf72 O6 b6
            go_wp2_with fail
            refine (size_ok _ B p m _ HD7.out ⟨#[97]⟩ (by decide) (by decide) f7 HF7.out rfl).mono ?_
            rintro e w8 ⟨rfl, rfl⟩
            rw [HFL7.out]
            go_wp2_with fail
            go_roundw
            case rel => exact ⟨k + 1, used + kk, ops + 1, es7, by omega, by simp, by simp, by omega, by omega, HD7.out, HX7.out, HB7.out⟩
            case measure => simp [intOf]; omega
          · have HF1 : Hid (fd es' [97] = none) := (show fd es' [97] = none by
              have := find_ab' es' [97]
              rw [hA] at this
              cases hh : fd es' [97] with
              | none => rfl
              | some g => rw [hh] at this; cases this)
            have HA := (show Hid _ from hA)
            have HFIT : Hid (fitA n (ab es') [97] (cnt (List.replicate (32 * kk) 0).length) = false) := by
              rw [List.length_replicate, hcnt]
              show fitA n (ab es') [97] kk = _
              rw [hA, fitA_nil]
              exact decide_eq_false (by have := HU0.out; omega)
            clear hA
            have dfit : (n : Int) < (used : Int) + (kk : Int) := by omega
            go_wp2_with fail
            refine (size_none _ B p m _ D.out ⟨#[97]⟩ (by decide) (by decide) HF1.out).mono ?_
            rintro e w5 ⟨rfl, rfl⟩
            go_wp2_with fail
            have O6 := own_mk (32 * kk) (by omega) w5
            rw [HCK.out] at O6
            have b6 := (Below.refl w5.heap.size w5).alloc (Nat.le_refl _) (.cells ck 5)
            refine (append_full _ B p m _ (D.out.step b6) ⟨#[97]⟩ (by decide) (by decide) _ (List.replicate (32 * kk) 0) O6.bs (by simp; omega) (by rw [fit_ab]; exact HFIT.out)).mono ?_
            rintro e w7 ⟨rfl, b7⟩
            have HD7 : Hid (Dsk w7 B p m ⟨n, ops, 0, true, .nilFunc, es'⟩) := (D.out.step b6).step b7
            have HB7 := (show Hid _ from (BE.out.trans (b6.mono (by have := BE.out.size; have := HBW.out; omega))).trans (b7.mono (by have := BE.out.size; have := b6.size; have := HBW.out; omega)))
            clear b6 b7 O6
            go_wp2_with fail
            refine (size_none _ B p m _ HD7.out ⟨#[97]⟩ (by decide) (by decide) HF1.out).mono ?_
            rintro e w8 ⟨rfl, rfl⟩
            go_wp2_with fail
            go_roundw
            case rel => exact ⟨k + 1, used, ops, es', by omega, by simp, rfl, by omega, by omega, HD7.out, FX.out, HB7.out⟩
            case measure => simp [intOf]; omega
        · by_cases hfit : used + kk ≤ n
          · obtain ⟨f, hf1, hf2, _, _⟩ := fd_ab (es := es') (l := [97]) (by rw [hA]; rfl)
            have HF1 := (show Hid _ from hf1)
            have HFL : Hid (f.ss.length = used) := (show f.ss.length = used by rw [hf2]; exact hsl)
            clear hf1 hf2
            have HA := (show Hid _ from hA)
            have HFIT : Hid (fitA n (ab es') [97] (cnt (List.replicate (32 * kk) 0).length) = true) := by
              rw [List.length_replicate, hcnt]
              show fitA n (ab es') [97] kk = _
              rw [hA, fitA_one]
              exact decide_eq_true (by omega)
            clear hA
            have dfit : (used : Int) + (kk : Int) ≤ (n : Int) := by omega
            go_wp2_with fail
            refine (size_ok _ B p m _ D.out ⟨#[97]⟩ (by decide) (by decide) f HF1.out rfl).mono ?_
            rintro e w5 ⟨rfl, rfl⟩
            rw [HFL.out]
            go_wp2_with fail
            have O6 := own_mk (32 * kk) (by omega) w5
            rw [HCK.out] at O6
            have b6 := (Below.refl w5.heap.size w5).alloc (Nat.le_refl _) (.cells ck 5)
            refine (append_ok _ B p m _ (D.out.step b6) ⟨#[97]⟩ (by decide) (by decide) _ (List.replicate (32 * kk) 0) O6.bs O6.safe (by simp; omega) (by rw [fit_ab]; exact HFIT.out) rfl (by show ops ≤ _; omega) (by show (0 : Nat) ≤ _; omega)).mono ?_
            rintro e w7 ⟨he, ⟨es7, hab7, hD7⟩, hk7, hb7⟩
            obtain rfl : e = .returned (.int .i64 0) := he
            have hA7 : ab es7 = [([97], ss ++ parts (List.replicate (32 * kk) 0), 0)] := by
              have h1 : ab es7 = apd (ab es') [97] (parts (List.replicate (32 * kk) 0)) := hab7
              rw [HA.out] at h1
              exact h1
            have hl7 : (ss ++ parts (List.replicate (32 * kk) 0)).length = used + kk := by
              have h1 : (parts (List.replicate (32 * kk) 0)).length = kk := by unfold parts; rw [List.length_map, List.length_range, List.length_replicate, hcnt]
              rw [List.length_append, h1, hsl]
            obtain ⟨f7, hf71, hf72, _, _⟩ := fd_ab (es := es7) (l := [97]) (by rw [hA7]; rfl)
            have HF7 := (show Hid _ from hf71)
            have HFL7 : Hid (f7.ss.length = used + kk) := (show f7.ss.length = used + kk by rw [hf72]; exact hl7)
            have HD7 : Hid (Dsk w7 B p m ⟨n, ops + 1, 0, true, .nilFunc, es7⟩) := hD7
            have HX7 : Hid (Fl es7 (used + kk)) := .inr ⟨_, hA7, hl7⟩
            have HB7 := (show Hid _ from (BE.out.trans (b6.mono (by have := BE.out.size; have := HBW.out; omega))).trans hb7)
            clear hab7 hD7 hk7 hb7 hA7 hl7 hf71 hf72 O6 b6
            go_wp2_with fail
            refine (size_ok _ B p m _ HD7.out ⟨#[97]⟩ (by decide) (by decide) f7 HF7.out rfl).mono ?_
            rintro e w8 ⟨rfl, rfl⟩
            rw [HFL7.out]
            go_wp2_with fail
            go_roundw
            case rel => exact ⟨k + 1, used + kk, ops + 1, es7, by omega, by simp, by simp, by omega, by omega, HD7.out, HX7.out, HB7.out⟩
            case measure => simp [intOf]; omega
          · obtain ⟨f, hf1, hf2, _, _⟩ := fd_ab (es := es') (l := [97]) (by rw [hA]; rfl)
            have HF1 := (show Hid _ from hf1)
            have HFL : Hid (f.ss.length = used) := (show f.ss.length = used by rw [hf2]; exact hsl)
            clear hf1 hf2
            have HA := (show Hid _ from hA)
            have HFIT : Hid (fitA n (ab es') [97] (cnt (List.replicate (32 * kk) 0).length) = false) := by
              rw [List.length_replicate, hcnt]
              show fitA n (ab es') [97] kk = _
              rw [hA, fitA_one]
              exact decide_eq_false (by omega)
            clear hA
            have dfit : (n : Int) < (used : Int) + (kk : Int) := by omega
            go_wp2_with fail
            refine (size_ok _ B p m _ D.out ⟨#[97]⟩ (by decide) (by decide) f HF1.out rfl).mono ?_
            rintro e w5 ⟨rfl, rfl⟩
            rw [HFL.out]
            go_wp2_with fail
            have O6 := own_mk (32 * kk) (by omega) w5
            rw [HCK.out] at O6
            have b6 := (Below.refl w5.heap.size w5).alloc (Nat.le_refl _) (.cells ck 5)
            refine (append_full _ B p m _ (D.out.step b6) ⟨#[97]⟩ (by decide) (by decide) _ (List.replicate (32 * kk) 0) O6.bs (by simp; omega) (by rw [fit_ab]; exact HFIT.out)).mono ?_
            rintro e w7 ⟨rfl, b7⟩
            have HD7 : Hid (Dsk w7 B p m ⟨n, ops, 0, true, .nilFunc, es'⟩) := (D.out.step b6).step b7
            have HB7 := (show Hid _ from (BE.out.trans (b6.mono (by have := BE.out.size; have := HBW.out; omega))).trans (b7.mono (by have := BE.out.size; have := b6.size; have := HBW.out; omega)))
            clear b6 b7 O6
            go_wp2_with fail
            refine (size_ok _ B p m _ HD7.out ⟨#[97]⟩ (by decide) (by decide) f HF1.out rfl).mono ?_
            rintro e w8 ⟨rfl, rfl⟩
            rw [HFL.out]
            go_wp2_with fail
            go_roundw
            case rel => exact ⟨k + 1, used, ops, es', by omega, by simp, rfl, by omega, by omega, HD7.out, FX.out, HB7.out⟩
            case measure => simp [intOf]; omega
    · obtain rfl : k = L := by omega
      go_wp2_with fail
      go_ret
      exact ⟨rfl, HB1.out.trans ((HB2.out.trans BE.out).mono HWB.out)⟩
end Go.Proofs.Ytonnkfijifdgcaa
