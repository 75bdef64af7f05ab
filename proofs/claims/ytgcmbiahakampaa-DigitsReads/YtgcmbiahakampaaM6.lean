/- digits: the reader: whole. -/
import Derived.Test.YtgcmbiahakampaaJh
import Derived.WalkLawsBesides
namespace Go.Proofs.Ytgcmbiahakampaa
open Go.RowKit
set_option linter.unusedVariables false
set_option linter.unusedSimpArgs false

/-- size and beyond behind n digits from i on -/
def fld (s : ByteArray) (i M : Nat) (b : Bool) : Nat → Nat × Bool
  | 0 => (M, b)
  | n + 1 => (stpM (fld s i M b n).1 (fld s i M b n).2 (dgt s (i + n)), stpB (fld s i M b n).1 (fld s i M b n).2 (dgt s (i + n)))
theorem fld_lt {s : ByteArray} {i M : Nat} {b : Bool} (h : M < 170141183460469231731687303715884105728) : ∀ n, (fld s i M b n).1 < 170141183460469231731687303715884105728
  | 0 => h
  | n + 1 => stpM_lt (fld_lt h n)
/-- where a reader stands -/
def atOf (r : Nat) (w : World) : Nat := match w.cell? ⟨r, 1, none⟩ with | some (.int _ x) => x.toNat | _ => 0
theorem RD.at {w : World} {r i M : Nat} {s : ByteArray} {b : Bool} (h : RD w r s i M b) : atOf r w = i := by
  have := VA.cell h 1 (v := .int .i64 (i : Int)) rfl
  simp [atOf, this]
theorem whole_zero (r : Nat) (s : ByteArray) (i M : Nat) (b : Bool) (w : World) (V : RD w r s i M b) (hb : s.size ≤ 64) (h : i < s.size) (hc : s[i].toNat = 48) :
    Calls Try.prog 38 #[.pointer (some ⟨r, 0, none⟩)] w fun e w' => e = .returned (.tuple #[]) ∧ RD w' r s (i + 1) M b ∧ Below r w w' := by
  have hT := take_t r s i M b 48 w V hb h hc
  clear V h hc
  go_enter Try.func38, Try.ntmps38
  go_wp2_with fail
  refine hT.mono ?_
  rintro e w1 ⟨rfl, v1, b1⟩
  have HV : Hid (RD w1 r s (i + 1) M b) := v1
  have HB := (show Hid _ from b1)
  clear v1 b1 hT
  go_wp2_with fail
  first | exact bodyPost_ret (v := .tuple #[]) (by simp [results, Try.results38, go_sem]) rfl ⟨rfl, HV.out, HB.out⟩ | exact bodyPost_end (v := .tuple #[]) (by simp [results, Try.results38, go_sem]) rfl ⟨rfl, HV.out, HB.out⟩
theorem whole_run (r : Nat) (s : ByteArray) (i M n : Nat) (b : Bool) (w : World) (V : RD w r s i M b) (hM : M < 170141183460469231731687303715884105728) (hb : s.size ≤ 64) (h0 : ∀ h : i < s.size, s[i].toNat ≠ 48)
    (hn : 1 ≤ n) (hin : i + n ≤ s.size) (hd : ∀ j, j < n → isDg s (i + j)) (hx : ¬ isDg s (i + n)) :
    Calls Try.prog 38 #[.pointer (some ⟨r, 0, none⟩)] w fun e w' => e = .returned (.tuple #[]) ∧ RD w' r s (i + n) (fld s i M b n).1 (fld s i M b n).2 ∧ Below r w w' := by
  have hT := take_f r s i M b 48 w V (by omega) h0
  have HD := (show Hid _ from hd)
  have HX : Hid (¬ isDg s (i + n)) := hx
  clear V h0 hd hx
  go_enter Try.func38, Try.ntmps38
  go_wp2_with fail
  refine hT.mono ?_
  rintro e w1 ⟨rfl, v1, b1⟩
  have HV : Hid (RD w1 r s i M b) := v1
  have HB := (show Hid _ from b1)
  clear v1 b1 hT
  go_wp2_with fail
  refine (digit_t r s i M b _ HV.out hM hb (HD.out 0 (by omega))).mono ?_
  rintro e w2 ⟨rfl, v2, b2⟩
  have HV2 : Hid (RD w2 r s (i + 1) (fld s i M b 1).1 (fld s i M b 1).2) := v2
  have HB2 := (show Hid _ from HB.out.trans b2)
  clear v2 b2 HV HB
  go_wp2_with fail
  go_loopw [13] (fun _ wr => ∃ k : Nat, k ≤ n ∧ Hid (1 ≤ k) ∧ Hid (RD wr r s (i + k) (fld s i M b k).1 (fld s i M b k).2) ∧ Hid (Below r w wr)) (fun _ wr => i + n - atOf r wr)
  case atStart => exact ⟨1, by omega, Nat.le_refl _, HV2, HB2⟩
  case round =>
    obtain ⟨k, hk, HK, HR, HBk⟩ := hrel
    by_cases hkn : k = n
    · subst hkn
      go_wp2_with fail
      refine (digit_f r s (i + k) _ _ _ HR.out hin HX.out).mono ?_
      rintro e w3 ⟨rfl, v3, b3⟩
      have HV3 : Hid (RD w3 r s (i + k) (fld s i M b k).1 (fld s i M b k).2) := v3
      have HB3 := (show Hid _ from HBk.out.trans b3)
      clear v3 b3
      go_wp2_with fail
      first | exact bodyPost_end (v := .tuple #[]) (by simp [results, Try.results38, go_sem]) rfl ⟨rfl, HV3.out, HB3.out⟩ | exact bodyPost_ret (v := .tuple #[]) (by simp [results, Try.results38, go_sem]) rfl ⟨rfl, HV3.out, HB3.out⟩
    · have hlt : k < n := by omega
      clear hkn
      go_wp2_with fail
      refine (digit_t r s (i + k) _ _ _ HR.out (fld_lt hM k) hb (HD.out k hlt)).mono ?_
      rintro e w3 ⟨rfl, v3, b3⟩
      have HV3 : Hid (RD w3 r s (i + (k + 1)) (fld s i M b (k + 1)).1 (fld s i M b (k + 1)).2) := v3
      have HB3 := (show Hid _ from HBk.out.trans b3)
      have a1 := HR.out.at
      have a2 := HV3.out.at
      clear v3 b3
      go_wp2_with fail
      refine ⟨⟨k + 1, by omega, (show Hid (1 ≤ k + 1) from Nat.le_add_left 1 k), HV3, HB3⟩, ?_⟩
      rw [a1, a2]
      omega
theorem whole_fault (r : Nat) (s : ByteArray) (i M : Nat) (b : Bool) (w : World) (V : RD w r s i M b) (hi : i ≤ s.size) (hx : ¬ isDg s i) :
    Calls Try.prog 38 #[.pointer (some ⟨r, 0, none⟩)] w fun e w' => e = .panicked [{ v := .iface 52 (.int .i64 (i : Int)), recovered := false }] ∧ Below r w w' := by
  have hT := take_f r s i M b 48 w V hi (fun h e => hx ⟨h, by omega, by omega⟩)
  have HX : Hid (¬ isDg s i) := hx
  clear V hx
  go_enter Try.func38, Try.ntmps38
  go_wp2_with fail
  refine hT.mono ?_
  rintro e w1 ⟨rfl, v1, b1⟩
  have HV : Hid (RD w1 r s i M b) := v1
  have HB := (show Hid _ from b1)
  clear v1 b1 hT
  go_wp2_with fail
  refine (digit_f r s i M b _ HV.out hi HX.out).mono ?_
  rintro e w2 ⟨rfl, v2, b2⟩
  have a1 := VA.cell v2 1 (v := .int .i64 (i : Int)) rfl
  have HB2 := (show Hid _ from HB.out.trans b2)
  clear v2 b2 HV HB
  go_wp2_with fail
  exact ⟨rfl, rfl, HB2.out⟩
end Go.Proofs.Ytgcmbiahakampaa
/- digits: the reader: fraction. -/
namespace Go.Proofs.Ytgcmbiahakampaa
open Go.RowKit
set_option linter.unusedVariables false
set_option linter.unusedSimpArgs false

theorem frac_none (r : Nat) (s : ByteArray) (i M : Nat) (b : Bool) (w : World) (V : RD w r s i M b) (hi : i ≤ s.size) (hc : ∀ h : i < s.size, s[i].toNat ≠ 46) :
    Calls Try.prog 39 #[.pointer (some ⟨r, 0, none⟩)] w fun e w' => e = .returned (.int .i64 0) ∧ RD w' r s i M b ∧ Below r w w' := by
  have hT := take_f r s i M b 46 w V hi hc
  clear V hc
  go_enter Try.func39, Try.ntmps39
  go_wp2_with fail
  refine hT.mono ?_
  rintro e w1 ⟨rfl, v1, b1⟩
  have HV : Hid (RD w1 r s i M b) := v1
  have HB := (show Hid _ from b1)
  clear v1 b1 hT
  go_wp2_with fail
  go_ret
  exact ⟨rfl, HV.out, HB.out⟩
theorem frac_fault (r : Nat) (s : ByteArray) (i M : Nat) (b : Bool) (w : World) (V : RD w r s i M b) (hb : s.size ≤ 64) (h : i < s.size) (hc : s[i].toNat = 46) (hx : ¬ isDg s (i + 1)) :
    Calls Try.prog 39 #[.pointer (some ⟨r, 0, none⟩)] w fun e w' => e = .panicked [{ v := .iface 52 (.int .i64 ((i + 1 : Nat) : Int)), recovered := false }] ∧ Below r w w' := by
  have hT := take_t r s i M b 46 w V hb h hc
  have HX : Hid (¬ isDg s (i + 1)) := hx
  have HI : Hid (i + 1 ≤ s.size) := h
  clear V hc hx
  go_enter Try.func39, Try.ntmps39
  go_wp2_with fail
  refine hT.mono ?_
  rintro e w1 ⟨rfl, v1, b1⟩
  have HV : Hid (RD w1 r s (i + 1) M b) := v1
  have HB := (show Hid _ from b1)
  clear v1 b1 hT
  go_wp2_with fail
  refine (digit_f r s (i + 1) M b _ HV.out HI.out HX.out).mono ?_
  rintro e w2 ⟨rfl, v2, b2⟩
  have a1 := VA.cell v2 1 (v := .int .i64 ((i + 1 : Nat) : Int)) rfl
  have HB2 := (show Hid _ from HB.out.trans b2)
  clear v2 b2 HV HB
  go_wp2_with fail
  exact ⟨rfl, by simp, HB2.out⟩
theorem frac_run (r : Nat) (s : ByteArray) (i M n : Nat) (b : Bool) (w : World) (V : RD w r s i M b) (hM : M < 170141183460469231731687303715884105728) (hb : s.size ≤ 64) (h : i < s.size) (hc : s[i].toNat = 46)
    (hn : 1 ≤ n) (hn18 : n ≤ 18) (hin : i + 1 + n ≤ s.size) (hd : ∀ j, j < n → isDg s (i + 1 + j)) (hx : n = 18 ∨ ¬ isDg s (i + 1 + n)) :
    Calls Try.prog 39 #[.pointer (some ⟨r, 0, none⟩)] w fun e w' => e = .returned (.int .i64 (n : Int)) ∧ RD w' r s (i + 1 + n) (fld s (i + 1) M b n).1 (fld s (i + 1) M b n).2 ∧ Below r w w' := by
  have hT := take_t r s i M b 46 w V hb h hc
  have HD := (show Hid _ from hd)
  have HX : Hid (n = 18 ∨ ¬ isDg s (i + 1 + n)) := hx
  clear V hc hd hx
  go_enter Try.func39, Try.ntmps39
  go_wp2_with fail
  refine hT.mono ?_
  rintro e w1 ⟨rfl, v1, b1⟩
  have HV : Hid (RD w1 r s (i + 1) M b) := v1
  have HB := (show Hid _ from b1)
  clear v1 b1 hT
  go_wp2_with fail
  refine (digit_t r s (i + 1) M b _ HV.out hM hb (HD.out 0 (by omega))).mono ?_
  rintro e w2 ⟨rfl, v2, b2⟩
  have HV2 : Hid (RD w2 r s (i + 1 + 1) (fld s (i + 1) M b 1).1 (fld s (i + 1) M b 1).2) := v2
  have HB2 := (show Hid _ from HB.out.trans b2)
  clear v2 b2 HV HB
  go_wp2_with fail
  go_loopw [3] (fun t wr => ∃ k : Nat, k ≤ n ∧ t = .int .i64 (k : Int) ∧ Hid (RD wr r s (i + 1 + k) (fld s (i + 1) M b k).1 (fld s (i + 1) M b k).2) ∧ Hid (Below r w wr)) (fun t _ => n - (intOf t).toNat)
  case atStart => exact ⟨1, by omega, rfl, HV2, HB2⟩
  case round =>
    obtain ⟨k, hk, rfl, HR, HBk⟩ := hrel
    by_cases hkn : k = n
    · subst hkn
      by_cases h18 : k = 18
      · have g18 : ¬ (k : Int) < 18 := by omega
        have HK : Hid (k = 18) := h18
        clear h18
        go_wp2_with fail
        go_ret
        exact ⟨rfl, HR.out, HBk.out⟩
      · have g18 : (k : Int) < 18 := by omega
        have HX2 : Hid (¬ isDg s (i + 1 + k)) := HX.out.elim (fun e => absurd e h18) id
        clear h18
        go_wp2_with fail
        refine (digit_f r s (i + 1 + k) _ _ _ HR.out hin HX2.out).mono ?_
        rintro e w3 ⟨rfl, v3, b3⟩
        have HV3 : Hid (RD w3 r s (i + 1 + k) (fld s (i + 1) M b k).1 (fld s (i + 1) M b k).2) := v3
        have HB3 := (show Hid _ from HBk.out.trans b3)
        clear v3 b3
        go_wp2_with fail
        go_ret
        exact ⟨rfl, HV3.out, HB3.out⟩
    · have hlt : k < n := by omega
      have g18 : (k : Int) < 18 := by omega
      clear hkn
      go_wp2_with fail
      refine (digit_t r s (i + 1 + k) _ _ _ HR.out (fld_lt hM k) hb (HD.out k hlt)).mono ?_
      rintro e w3 ⟨rfl, v3, b3⟩
      have HV3 : Hid (RD w3 r s (i + 1 + (k + 1)) (fld s (i + 1) M b (k + 1)).1 (fld s (i + 1) M b (k + 1)).2) := v3
      have HB3 := (show Hid _ from HBk.out.trans b3)
      clear v3 b3
      go_wp2_with fail
      exact ⟨⟨k + 1, by omega, by simp, HV3, HB3⟩, by simp [intOf]; omega⟩
end Go.Proofs.Ytgcmbiahakampaa
