/- digits: Parse in plain numbers. -/
import Derived.Test.YtgcmbiahakampaaJp
namespace Go.Proofs.Ytgcmbiahakampaa
open Go.RowKit
set_option linter.unusedVariables false
set_option linter.unusedSimpArgs false

/-- the byte at a place; 256 behind the end -/
def bt (s : ByteArray) (i : Nat) : Nat := if h : i < s.size then s[i].toNat else 256
theorem bt_in {s : ByteArray} {i : Nat} (h : i < s.size) : bt s i = s[i].toNat := by unfold bt; rw [dif_pos h]
theorem bt_lt {s : ByteArray} {i : Nat} : bt s i < 256 ↔ i < s.size := by
  unfold bt
  by_cases h : i < s.size
  · simp [h]; exact s[i].toNat_lt
  · simp [h]
theorem isDg_iff {s : ByteArray} {i : Nat} : isDg s i ↔ 48 ≤ bt s i ∧ bt s i ≤ 57 := by
  constructor
  · rintro ⟨h, a, b⟩; rw [bt_in h]; exact ⟨a, b⟩
  · rintro ⟨a, b⟩
    have h : i < s.size := bt_lt.1 (by omega)
    rw [bt_in h] at a b
    exact ⟨h, a, b⟩
theorem dgt_bt {s : ByteArray} {i : Nat} (h : i < s.size) : dgt s i = bt s i - 48 := by unfold dgt bt; rw [dif_pos h, dif_pos h]
theorem bt_ne {s : ByteArray} {i c : Nat} (hc : bt s i ≠ c) : ∀ h : i < s.size, s[i].toNat ≠ c := fun h e => hc (by rw [bt_in h]; exact e)
/-- the number that n digits from i on make, behind M -/
def nv (s : ByteArray) (i M : Nat) : Nat → Nat
  | 0 => M
  | n + 1 => 10 * nv s i M n + dgt s (i + n)
def B127 : Nat := 170141183460469231731687303715884105728
theorem nv_mono {s : ByteArray} {i M : Nat} : ∀ n, M ≤ nv s i M n
  | 0 => Nat.le_refl _
  | n + 1 => by have := nv_mono (s := s) (i := i) (M := M) n; simp only [nv]; omega
theorem fld_true {s : ByteArray} {i M : Nat} : ∀ n, (fld s i M true n) = (M, true)
  | 0 => rfl
  | n + 1 => by simp [fld, fld_true n, stpM, stpB]
theorem fld_nv {s : ByteArray} {i M : Nat} : ∀ n, (nv s i M n < B127 → fld s i M false n = (nv s i M n, false)) ∧ (¬ nv s i M n < B127 → M < B127 → (fld s i M false n).2 = true ∧ (fld s i M false n).1 ≠ 0)
  | 0 => ⟨fun _ => rfl, fun h h2 => absurd h2 h⟩
  | n + 1 => by
    obtain ⟨h1, h2⟩ := fld_nv (s := s) (i := i) (M := M) n
    constructor
    · intro h
      have hn : nv s i M n < B127 := by simp only [nv] at h; omega
      simp only [fld, h1 hn, nv]
      simp only [nv] at h
      simp [stpM, stpB, h, show (170141183460469231731687303715884105728 : Nat) = B127 from rfl]
    · intro h hM
      by_cases hn : nv s i M n < B127
      · simp only [fld, h1 hn]
        simp only [nv] at h
        have hd : dgt s (i + n) < 208 := by
          unfold dgt
          split
          · next hx => have := s[i + n].toNat_lt; omega
          · omega
        have h0 : nv s i M n ≠ 0 := by
          intro e
          rw [e] at h
          unfold B127 at h
          omega
        simp [stpM, stpB, h, h0, show (170141183460469231731687303715884105728 : Nat) = B127 from rfl]
      · obtain ⟨a, b⟩ := h2 hn hM
        simp [fld, stpM, stpB, a, b]
/-- a minus, or none -/
structure Mins (s : ByteArray) (neg : Bool) (i : Nat) : Prop where
  h : (neg = true ∧ bt s 0 = 45 ∧ i = 1) ∨ (neg = false ∧ bt s 0 ≠ 45 ∧ i = 0)
/-- the digits in front: up to j, the number V -/
structure Whol (s : ByteArray) (i j V : Nat) : Prop where
  h : (bt s i = 48 ∧ j = i + 1 ∧ V = 0) ∨ (bt s i ≠ 48 ∧ ∃ n, 1 ≤ n ∧ j = i + n ∧ (∀ k, k < n → isDg s (i + k)) ∧ ¬ isDg s j ∧ V = nv s i 0 n)
/-- the point and the digits behind it -/
structure Frac (s : ByteArray) (j f sc V1 V : Nat) : Prop where
  h : (bt s j ≠ 46 ∧ f = j ∧ sc = 0 ∧ V = V1) ∨ (bt s j = 46 ∧ 1 ≤ sc ∧ sc ≤ 18 ∧ f = j + 1 + sc ∧ (∀ k, k < sc → isDg s (j + 1 + k)) ∧ (sc = 18 ∨ ¬ isDg s f) ∧ V = nv s (j + 1) V1 sc)
theorem Mins.le {s : ByteArray} {neg : Bool} {i : Nat} (h : Mins s neg i) : i ≤ s.size := by
  rcases h.h with ⟨_, h1, rfl⟩ | ⟨_, _, rfl⟩
  · exact bt_lt.1 (by omega)
  · exact Nat.zero_le _
theorem Whol.le {s : ByteArray} {i j V : Nat} (h : Whol s i j V) : j ≤ s.size ∧ i < j := by
  rcases h.h with ⟨h1, rfl, _⟩ | ⟨_, n, hn, rfl, hd, _⟩
  · exact ⟨bt_lt.1 (by omega), by omega⟩
  · obtain ⟨hx, _⟩ := hd (n - 1) (by omega)
    omega
theorem Mins.take {s : ByteArray} {neg : Bool} {i : Nat} (hm : Mins s neg i) (hs : s.size ≤ 64) : ∀ r w, RD w r s 0 0 false → Calls Try.prog 37 #[.pointer (some ⟨r, 0, none⟩), .int .u8 45] w fun e w' => e = .returned (.bool neg) ∧ RD w' r s i 0 false ∧ Below r w w' := by
  intro r w V
  rcases hm.h with ⟨rfl, h1, rfl⟩ | ⟨rfl, h1, rfl⟩
  · have h : 0 < s.size := bt_lt.1 (by omega)
    exact take_t r s 0 0 false 45 w V hs h (by rw [← bt_in h]; exact h1)
  · exact take_f r s 0 0 false 45 w V (Nat.zero_le _) (bt_ne h1)
theorem Whol.call {s : ByteArray} {i j V : Nat} (hw : Whol s i j V) (hs : s.size ≤ 64) : ∃ M1 b1, M1 < 170141183460469231731687303715884105728 ∧ (V < B127 → M1 = V ∧ b1 = false) ∧ (¬ V < B127 → b1 = true ∧ M1 ≠ 0) ∧ ∀ r w, RD w r s i 0 false → Calls Try.prog 38 #[.pointer (some ⟨r, 0, none⟩)] w fun e w' => e = .returned (.tuple #[]) ∧ RD w' r s j M1 b1 ∧ Below r w w' := by
  rcases hw.h with ⟨h1, rfl, rfl⟩ | ⟨h0, n, hn, rfl, hd, hx, rfl⟩
  · have h : i < s.size := bt_lt.1 (by omega)
    exact ⟨0, false, by decide, fun _ => ⟨rfl, rfl⟩, fun h => absurd (by decide) h, fun r w V => whole_zero r s i 0 false w V hs h (by rw [← bt_in h]; exact h1)⟩
  · obtain ⟨hz, _⟩ := hd (n - 1) (by omega)
    refine ⟨(fld s i 0 false n).1, (fld s i 0 false n).2, fld_lt (by decide) n, fun h => ?_, fun h => ?_, fun r w V => whole_run r s i 0 n false w V (by decide) hs (bt_ne h0) hn (by omega) hd hx⟩
    · rw [(fld_nv n).1 h]; exact ⟨rfl, rfl⟩
    · exact (fld_nv n).2 h (by decide)
theorem Frac.call {s : ByteArray} {j f sc V1 V M1 : Nat} {b1 : Bool} (hf : Frac s j f sc V1 V) (hs : s.size ≤ 64) (hj : j ≤ s.size) (hM : M1 < 170141183460469231731687303715884105728) (h1 : V1 < B127 → M1 = V1 ∧ b1 = false) (h2 : ¬ V1 < B127 → b1 = true ∧ M1 ≠ 0) :
    ∃ M b, M < 170141183460469231731687303715884105728 ∧ (V < B127 → M = V ∧ b = false) ∧ (¬ V < B127 → b = true ∧ M ≠ 0) ∧ ∀ r w, RD w r s j M1 b1 → Calls Try.prog 39 #[.pointer (some ⟨r, 0, none⟩)] w fun e w' => e = .returned (.int .i64 (sc : Int)) ∧ RD w' r s f M b ∧ Below r w w' := by
  rcases hf.h with ⟨h0, rfl, rfl, rfl⟩ | ⟨h0, hn, hn18, rfl, hd, hx, rfl⟩
  · exact ⟨M1, b1, hM, h1, h2, fun r w V => frac_none r s f M1 b1 w V hj (bt_ne h0)⟩
  · have h : j < s.size := bt_lt.1 (by omega)
    obtain ⟨hz, _⟩ := hd (sc - 1) (by omega)
    refine ⟨(fld s (j + 1) M1 b1 sc).1, (fld s (j + 1) M1 b1 sc).2, fld_lt hM sc, fun hV => ?_, fun hV => ?_, fun r w V => frac_run r s j M1 sc b1 w V hM hs h (by rw [← bt_in h]; exact h0) hn hn18 (by omega) hd hx⟩
    · have hV1 : V1 < B127 := Nat.lt_of_le_of_lt (nv_mono sc) hV
      obtain ⟨rfl, rfl⟩ := h1 hV1
      rw [(fld_nv sc).1 hV]
      exact ⟨rfl, rfl⟩
    · by_cases hV1 : V1 < B127
      · obtain ⟨rfl, rfl⟩ := h1 hV1
        exact (fld_nv sc).2 hV hM
      · obtain ⟨rfl, h0⟩ := h2 hV1
        rw [fld_true]
        exact ⟨rfl, h0⟩
theorem Frac.le {s : ByteArray} {j f sc V1 V : Nat} (h : Frac s j f sc V1 V) (hj : j ≤ s.size) : f ≤ s.size ∧ sc ≤ 18 := by
  rcases h.h with ⟨_, rfl, rfl, _⟩ | ⟨_, hn, h18, rfl, hd, _⟩
  · exact ⟨hj, by omega⟩
  · obtain ⟨hx, _⟩ := hd (sc - 1) (by omega)
    omega
theorem parts_of {s : ByteArray} {neg : Bool} {i j V1 f sc V : Nat} (hm : Mins s neg i) (hw : Whol s i j V1) (hf : Frac s j f sc V1 V) (hs : s.size ≤ 64) :
    ∃ M1 b1 M b, M < 170141183460469231731687303715884105728 ∧ (V < B127 → M = V ∧ b = false) ∧ (¬ V < B127 → b = true ∧ M ≠ 0) ∧ Parts s neg i j M1 f M sc b1 b := by
  obtain ⟨M1, b1, hM1, a1, a2, c1⟩ := hw.call hs
  obtain ⟨M, b, hM, d1, d2, c2⟩ := hf.call hs hw.le.1 hM1 a1 a2
  exact ⟨M1, b1, M, b, hM, d1, d2, ⟨hm.take hs, c1, c2⟩⟩
/-- no digit in front -/
theorem p_none {s : ByteArray} {neg : Bool} {i : Nat} (hm : Mins s neg i) (hs : s.size ≤ 64) (hx : ¬ isDg s i) (w : World) :
    Calls Try.prog 11 #[.string s] w fun e w' => e = .returned (.tuple #[.agg zdl.toArray, .int .i64 (i : Int), .int .i64 6]) ∧ Below w.heap.size w w' :=
  parse_fault s i w hs fun w => read_wfault s neg i w (hm.take hs) fun r w V => whole_fault r s i 0 false w V hm.le hx
/-- no digit behind the point -/
theorem p_point {s : ByteArray} {neg : Bool} {i j V1 : Nat} (hm : Mins s neg i) (hw : Whol s i j V1) (hs : s.size ≤ 64) (hp : bt s j = 46) (hx : ¬ isDg s (j + 1)) (w : World) :
    Calls Try.prog 11 #[.string s] w fun e w' => e = .returned (.tuple #[.agg zdl.toArray, .int .i64 ((j + 1 : Nat) : Int), .int .i64 6]) ∧ Below w.heap.size w w' := by
  obtain ⟨M1, b1, hM1, a1, a2, c1⟩ := hw.call hs
  have h : j < s.size := bt_lt.1 (by omega)
  exact parse_fault s (j + 1) w hs fun w => read_ffault s neg i w j M1 b1 (hm.take hs) c1 fun r w V => frac_fault r s j M1 b1 w V hs h (by rw [← bt_in h]; exact hp) hx
/-- something behind the number -/
theorem p_more {s : ByteArray} {neg : Bool} {i j V1 f sc V : Nat} (hm : Mins s neg i) (hw : Whol s i j V1) (hf : Frac s j f sc V1 V) (hs : s.size ≤ 64) (h : f < s.size) (w : World) :
    Calls Try.prog 11 #[.string s] w fun e w' => e = .returned (.tuple #[.agg zdl.toArray, .int .i64 (f : Int), .int .i64 6]) ∧ Below w.heap.size w w' := by
  obtain ⟨M1, b1, M, b, hM, d1, d2, P⟩ := parts_of hm hw hf hs
  exact parse_fault s f w hs fun w => read_fault s neg i j M1 f M sc b1 b w P h
/-- nought with a minus -/
theorem p_nought {s : ByteArray} {i j V1 f sc : Nat} (hm : Mins s true i) (hw : Whol s i j V1) (hf : Frac s j f sc V1 0) (hs : s.size ≤ 64) (h : f = s.size) (w : World) :
    Calls Try.prog 11 #[.string s] w fun e w' => e = .returned (.tuple #[.agg zdl.toArray, .int .i64 0, .int .i64 6]) ∧ Below w.heap.size w w' := by
  obtain ⟨M1, b1, M, b, hM, d1, d2, P⟩ := parts_of hm hw hf hs
  obtain ⟨rfl, rfl⟩ := d1 (by decide)
  exact parse_fault s 0 w hs fun w => read_nought s true i j M1 f 0 sc b1 false w P h rfl rfl
/-- too great -/
theorem p_great {s : ByteArray} {neg : Bool} {i j V1 f sc V : Nat} (hm : Mins s neg i) (hw : Whol s i j V1) (hf : Frac s j f sc V1 V) (hs : s.size ≤ 64) (h : f = s.size) (hV : ¬ V < B127) (w : World) :
    Calls Try.prog 11 #[.string s] w fun e w' => e = .returned (.tuple #[.agg zdl.toArray, .int .i64 0, .int .i64 4]) ∧ Below w.heap.size w w' := by
  obtain ⟨M1, b1, M, b, hM, d1, d2, P⟩ := parts_of hm hw hf hs
  obtain ⟨rfl, h0⟩ := d2 hV
  cases neg with
  | false => exact parse_great s w hs fun w => read_great_pos s false i j M1 f M sc b1 true w P h rfl rfl
  | true => exact parse_great s w hs fun w => read_great_neg s true i j M1 f M sc b1 true w P h rfl rfl h0
/-- a number -/
def sg (neg : Bool) (V : Nat) : Int := if neg then -(V : Int) else V
theorem p_yes {s : ByteArray} {neg : Bool} {i j V1 f sc V : Nat} (hm : Mins s neg i) (hw : Whol s i j V1) (hf : Frac s j f sc V1 V) (hs : s.size ≤ 64) (h : f = s.size) (hV : V < B127) (hn : neg = true → V ≠ 0) (w : World) :
    Calls Try.prog 11 #[.string s] w fun e w' => e = .returned (.tuple #[.agg (dcs (sg neg V) sc).toArray, .int .i64 0, .int .i64 0]) ∧ Below w.heap.size w w' := by
  obtain ⟨M1, b1, M, b, hM, d1, d2, P⟩ := parts_of hm hw hf hs
  obtain ⟨rfl, rfl⟩ := d1 hV
  have hsc := (hf.le hw.le.1).2
  cases neg with
  | false => exact parse_ok s (sg false M) sc w hs fun w => read_pos s false i j M1 f M sc b1 false w P h rfl rfl hM (by omega)
  | true => exact parse_ok s (sg true M) sc w hs fun w => read_neg s true i j M1 f M sc b1 false w P h rfl rfl (hn rfl) hM (by omega)
end Go.Proofs.Ytgcmbiahakampaa
