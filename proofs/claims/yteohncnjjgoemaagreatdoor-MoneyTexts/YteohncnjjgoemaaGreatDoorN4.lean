/- digits: the document's Fault where there is no digit; DocParse. -/
import Derived.Test.YteohncnjjgoemaaGreatDoorZd
namespace Go.Proofs.YteohncnjjgoemaaGreatDoor.dg
open Go.RowKit
set_option linter.unusedVariables false
set_option linter.unusedSimpArgs false

set_option maxHeartbeats 2000000 in
set_option maxRecDepth 100000 in
theorem fC1_pos (s : ByteArray) (w : World) (hb : bt s 0 ≠ 45) (hs : s.size ≤ 64) (hx : ¬ isDg s 0) : Calls Tryz.prog 47 #[.string s] w fun e w' => e = .returned (.int .i64 0) ∧ w' = w := by
  by_cases h0 : 0 < s.size
  · have h0' : (0 : Int) < s.size := by omega
    have hx0 : (s[0].toNat : Int) = bt s 0 := by rw [bt_in h0]
    have hb0 : ((bt s 0 : Int) == 45) = false := by simp; omega
    have HX := (show Hid _ from ndg_at hx h0)
    rw [show ((s[0].toNat : Int)) = bt s 0 from hx0] at HX
    clear hb hx
    go_enter Tryz.func47, Tryz.ntmps47
    go_wp2_with fail
    go_loopw [3, 6] (fun a o wy => a = .int .i64 0 ∧ o = .bool true ∧ wy = w) (fun _ _ _ => 0)
    case atStart => exact ⟨rfl, rfl, rfl⟩
    case round =>
      obtain ⟨rfl, rfl, rfl⟩ := hrel
      go_wp2_with fail
      refine (fig_no _ _ HX.out).mono ?_
      rintro e w1 ⟨rfl, rfl⟩
      go_wp2_with fail
      go_ret
      exact ⟨rfl, rfl⟩
  · have h0' : ¬ (0 : Int) < s.size := by omega
    clear hb hx
    go_enter Tryz.func47, Tryz.ntmps47
    go_wp2_with fail
    go_loopw [3, 6] (fun a o wy => a = .int .i64 0 ∧ o = .bool true ∧ wy = w) (fun _ _ _ => 0)
    case atStart => exact ⟨rfl, rfl, rfl⟩
    case round =>
      obtain ⟨rfl, rfl, rfl⟩ := hrel
      go_wp2_with fail
      go_ret
      exact ⟨rfl, rfl⟩
set_option maxHeartbeats 2000000 in
set_option maxRecDepth 100000 in
theorem fC1_neg (s : ByteArray) (w : World) (hb : bt s 0 = 45) (hs : s.size ≤ 64) (hx : ¬ isDg s 1) : Calls Tryz.prog 47 #[.string s] w fun e w' => e = .returned (.int .i64 1) ∧ w' = w := by
  have h0 : 0 < s.size := bt_lt.1 (by omega)
  have h0' : (0 : Int) < s.size := by omega
  have hx0 : (s[0].toNat : Int) = bt s 0 := by rw [bt_in h0]
  have hb0 : ((bt s 0 : Int) == 45) = true := by rw [hb]; rfl
  by_cases h1 : 1 < s.size
  · have h1' : (1 : Int) < s.size := by omega
    have HX := (show Hid _ from ndg_at hx h1)
    clear hb hx
    go_enter Tryz.func47, Tryz.ntmps47
    go_wp2_with fail
    go_loopw [3, 6] (fun a o wy => a = .int .i64 1 ∧ o = .bool true ∧ wy = w) (fun _ _ _ => 0)
    case atStart => exact ⟨rfl, rfl, rfl⟩
    case round =>
      obtain ⟨rfl, rfl, rfl⟩ := hrel
      go_wp2_with fail
      refine (fig_no _ _ HX.out).mono ?_
      rintro e w1 ⟨rfl, rfl⟩
      go_wp2_with fail
      go_ret
      exact ⟨rfl, rfl⟩
  · have h1' : ¬ (1 : Int) < s.size := by omega
    clear hb hx
    go_enter Tryz.func47, Tryz.ntmps47
    go_wp2_with fail
    go_loopw [3, 6] (fun a o wy => a = .int .i64 1 ∧ o = .bool true ∧ wy = w) (fun _ _ _ => 0)
    case atStart => exact ⟨rfl, rfl, rfl⟩
    case round =>
      obtain ⟨rfl, rfl, rfl⟩ := hrel
      go_wp2_with fail
      go_ret
      exact ⟨rfl, rfl⟩
theorem zdl_one : ∀ v ∈ zdl, v.oneCell' = true := by intro v hv; simp [zdl] at hv; rcases hv with rfl | rfl | rfl <;> rfl
set_option maxHeartbeats 2000000 in
set_option maxRecDepth 100000 in
theorem dp_long (s : ByteArray) (w : World) (hs : 64 < s.size) : Calls Tryz.prog 22 #[.string s] w fun e w' => e = .returned (.tuple #[.agg zdl.toArray, .int .i64 0, .int .i64 2]) ∧ Below w.heap.size w w' := by
  have hs' : (64 : Int) < s.size := by omega
  have VR := (show Hid _ from va_new w zdl 41)
  have BB := (show Hid _ from (Below.refl w.heap.size w).alloc (Nat.le_refl _) (.cells zdl.toArray 41))
  clear hs
  go_enter Tryz.func22, Tryz.ntmps22
  go_wp2_with (refine stA rfl 41 _ _ rfl w.heap.size (by rfl) zdl zdl (by rfl) 41 VR.out infoD rfl zdl_one ?_; intro wf vf uf)
  have hld := run_loadVar_row (P := Tryz.prog) wf w.heap.size 41 41 _ (0, 0) _ vf.blk Tryz.underlying41 rfl infoD
  exact bodyPost_ret (v := .tuple #[.agg zdl.toArray, .int .i64 0, .int .i64 2]) (by simp [results, Tryz.results22, asAddr, hld]) rfl ⟨rfl, uf.bel BB.out (Nat.le_refl _)⟩
set_option maxHeartbeats 2000000 in
set_option maxRecDepth 100000 in
theorem dp_fault (s : ByteArray) (k : Nat) (w : World) (hs : s.size ≤ 64) (hf : ∀ w, Calls Tryz.prog 47 #[.string s] w fun e w' => e = .returned (.int .i64 (k : Int)) ∧ w' = w) : Calls Tryz.prog 22 #[.string s] w fun e w' => e = .returned (.tuple #[.agg zdl.toArray, .int .i64 (k : Int), .int .i64 6]) ∧ Below w.heap.size w w' := by
  have hs' : ¬ (64 : Int) < s.size := by omega
  have HF := (show Hid _ from hf)
  have VR := (show Hid _ from va_new w zdl 41)
  have BB := (show Hid _ from (Below.refl w.heap.size w).alloc (Nat.le_refl _) (.cells zdl.toArray 41))
  clear hs hf
  go_enter Tryz.func22, Tryz.ntmps22
  go_wp2_with fail
  refine (HF.out _).mono ?_
  rintro e w1 ⟨rfl, hw1⟩
  obtain rfl := hw1.symm
  clear hw1
  go_wp2_with (refine stA rfl 41 _ _ rfl w.heap.size (by rfl) zdl zdl (by rfl) 41 VR.out infoD rfl zdl_one ?_; intro wf vf uf)
  have hld := run_loadVar_row (P := Tryz.prog) wf w.heap.size 41 41 _ (0, 0) _ vf.blk Tryz.underlying41 rfl infoD
  exact bodyPost_ret (v := .tuple #[.agg zdl.toArray, .int .i64 (k : Int), .int .i64 6]) (by simp [results, Tryz.results22, asAddr, hld]) rfl ⟨rfl, uf.bel BB.out (Nat.le_refl _)⟩
end Go.Proofs.YteohncnjjgoemaaGreatDoor.dg
/- digits: the document's DocParse of a text without a fault. -/
namespace Go.Proofs.YteohncnjjgoemaaGreatDoor.dg
open Go.RowKit
set_option linter.unusedVariables false
set_option linter.unusedSimpArgs false

/-- where the document's reader stands behind p bytes -/
structure Std (s : ByteArray) (neg : Bool) (i j V1 p V sc : Nat) (mn pt : Bool) : Prop where
  mi : mn = (neg && decide (1 ≤ p))
  lo : p ≤ j → V = nv s i 0 (p - i) ∧ pt = false ∧ sc = 0
  hi : j < p → V = nv s (j + 1) V1 (p - (j + 1)) ∧ pt = true ∧ sc = p - (j + 1)
/-- what the bytes are -/
structure Chars (s : ByteArray) (neg : Bool) (i j V1 : Nat) : Prop where
  ng : (neg = true ∧ i = 1 ∧ bt s 0 = 45) ∨ (neg = false ∧ i = 0)
  ij : i < j
  js : j ≤ s.size
  v1 : V1 = nv s i 0 (j - i)
  dot : j < s.size → bt s j = 46
  dig : ∀ p, p < s.size → i ≤ p → p ≠ j → isDg s p
theorem Std.dig {s : ByteArray} {neg : Bool} {i j V1 p V sc : Nat} {mn pt : Bool} (C : Chars s neg i j V1) (h : Std s neg i j V1 p V sc mn pt) (hp : p < s.size) (hi : i ≤ p) (hj : p ≠ j) : Std s neg i j V1 (p + 1) (10 * V + dgt s p) (if pt then sc + 1 else sc) mn pt := by
  refine ⟨?_, fun h1 => ?_, fun h1 => ?_⟩
  · rw [h.mi]
    rcases C.ng with ⟨rfl, rfl, _⟩ | ⟨rfl, rfl⟩
    · simp; omega
    · rfl
  · obtain ⟨rfl, rfl, rfl⟩ := h.lo (by omega)
    refine ⟨?_, rfl, rfl⟩
    rw [show p + 1 - i = (p - i) + 1 by omega, nv, show i + (p - i) = p by omega]
  · obtain ⟨rfl, rfl, rfl⟩ := h.hi (by omega)
    refine ⟨?_, rfl, by simp; omega⟩
    rw [show p + 1 - (j + 1) = (p - (j + 1)) + 1 by omega, nv, show j + 1 + (p - (j + 1)) = p by omega]
theorem Std.dot {s : ByteArray} {neg : Bool} {i j V1 V sc : Nat} {mn pt : Bool} (C : Chars s neg i j V1) (h : Std s neg i j V1 j V sc mn pt) : Std s neg i j V1 (j + 1) V sc mn true := by
  have := C.ij
  obtain ⟨rfl, rfl, rfl⟩ := h.lo (Nat.le_refl _)
  refine ⟨?_, fun h1 => by omega, fun _ => ⟨?_, rfl, by omega⟩⟩
  · rw [h.mi]
    rcases C.ng with ⟨rfl, rfl, _⟩ | ⟨rfl, rfl⟩
    · simp; omega
    · rfl
  · rw [show j + 1 - (j + 1) = 0 by omega, nv, C.v1]
theorem Std.minus {s : ByteArray} {neg : Bool} {i j V1 p V sc : Nat} {mn pt : Bool} (C : Chars s neg i j V1) (h : Std s neg i j V1 p V sc mn pt) (hp : p < i) : Std s neg i j V1 (p + 1) V sc true pt ∧ bt s p = 45 := by
  have := C.ij
  rcases C.ng with ⟨rfl, rfl, hb⟩ | ⟨rfl, rfl⟩
  · have hp0 : p = 0 := by omega
    subst hp0
    obtain ⟨rfl, rfl, rfl⟩ := h.lo (by omega)
    exact ⟨⟨by simp, fun _ => ⟨rfl, rfl, rfl⟩, fun h1 => by omega⟩, hb⟩
  · omega
theorem Std.start {s : ByteArray} {neg : Bool} {i j V1 : Nat} (C : Chars s neg i j V1) : Std s neg i j V1 0 0 0 false false :=
  ⟨by simp, fun _ => ⟨by simp [nv], rfl, rfl⟩, fun h => by omega⟩
theorem nv_md (s : ByteArray) (i : Nat) : ∀ n M k, M < 10 ^ k → (∀ q, q < n → isDg s (i + q)) → nv s i M n < 10 ^ (k + n)
  | 0, M, k, h, _ => h
  | n + 1, M, k, h, hd => by
    have ih := nv_md s i n M k h (fun q hq => hd q (by omega))
    obtain ⟨hx, h1, h2⟩ := hd n (by omega)
    rw [nv, show k + (n + 1) = (k + n) + 1 by omega, Nat.pow_succ]
    have : dgt s (i + n) ≤ 9 := by unfold dgt; rw [dif_pos hx]; omega
    omega
theorem Std.small {s : ByteArray} {neg : Bool} {i j V1 p V sc : Nat} {mn pt : Bool} (C : Chars s neg i j V1) (h : Std s neg i j V1 p V sc mn pt) (hs : s.size ≤ 64) (hp : p ≤ s.size) : V < 10 ^ 64 ∧ sc ≤ 64 := by
  have h1 : nv s i 0 (j - i) < 10 ^ (0 + (j - i)) := nv_md s i (j - i) 0 0 (by decide) (fun q hq => C.dig _ (by have := C.js; omega) (by omega) (by omega))
  have hj := C.js
  have hlt : V < 10 ^ 64 := by
    by_cases hpj : p ≤ j
    · obtain ⟨rfl, _, _⟩ := h.lo hpj
      have := nv_md s i (p - i) 0 0 (by decide) (fun q hq => C.dig _ (by omega) (by omega) (by omega))
      exact Nat.lt_of_lt_of_le this (Nat.pow_le_pow_right (by decide) (by omega))
    · obtain ⟨rfl, _, _⟩ := h.hi (by omega)
      rw [← C.v1] at h1
      have := nv_md s (j + 1) (p - (j + 1)) V1 _ h1 (fun q hq => C.dig _ (by omega) (by have := C.ij; omega) (by omega))
      exact Nat.lt_of_lt_of_le this (Nat.pow_le_pow_right (by decide) (by omega))
  refine ⟨hlt, ?_⟩
  by_cases hpj : p ≤ j
  · obtain ⟨_, _, rfl⟩ := h.lo hpj
    omega
  · obtain ⟨_, _, rfl⟩ := h.hi (by omega)
    omega
theorem md64 {V : Nat} (h : V < 10 ^ 64) : Md V ∧ Md (V * 10) :=
  ⟨md_of (k := 213) (Nat.lt_of_lt_of_le h (by decide)) (by decide), md_of (k := 217) (Nat.lt_of_lt_of_le (show V * 10 < 10 ^ 65 by omega) (by decide)) (by decide)⟩
set_option maxHeartbeats 8000000 in
set_option maxRecDepth 100000 in
theorem dp_fin (s : ByteArray) (neg : Bool) (i j V1 : Nat) (w : World) (hs : s.size ≤ 64) (C : Chars s neg i j V1) (hf : ∀ w, Calls Tryz.prog 47 #[.string s] w fun e w' => e = .returned (.int .i64 (-1)) ∧ w' = w) (X0 X1 X2 E : Int) (HDC : ∀ v w V sc mn pt, Std s neg i j V1 s.size V sc mn pt → Wn w v mn V → Calls Tryz.prog 32 #[v, .int .i64 (sc : Int)] w fun e w' => e = .returned (.tuple #[.agg #[.int .i64 X0, .int .u64 X1, .int .i64 X2], .int .i64 E]) ∧ Below w.heap.size w w') :
    Calls Tryz.prog 22 #[.string s] w fun e w' => e = .returned (.tuple #[.agg #[.int .i64 X0, .int .u64 X1, .int .i64 X2], .int .i64 0, .int .i64 E]) ∧ Below w.heap.size w w' := by
  have hs' : ¬ (64 : Int) < s.size := by omega
  have hs64 : Hid (s.size ≤ 64) := hs
  have HF := (show Hid _ from hf)
  have HC := (show Hid _ from C)
  have HD := (show Hid _ from HDC)
  have HMt : Hid (Md 10) := md_of (k := 4) (by decide) (by decide)
  have VR_0 := (show Hid _ from (va_new w zdl 41).alloc (.cells #[.bool false, .slice none 0 0] 84))
  have CV_0 := (show Hid _ from v2_new (w.alloc (.cells zdl.toArray 41)) (.bool false) (.slice none 0 0) 84)
  rw [show (w.alloc (.cells zdl.toArray 41)).heap.size = w.heap.size + 1 by simp] at CV_0
  have BB_0 := (show Hid _ from ((Below.refl w.heap.size w).alloc (Nat.le_refl _) (.cells zdl.toArray 41)).alloc (by simp) (.cells #[.bool false, .slice none 0 0] 84))
  clear hs hf C HDC
  go_enter Tryz.func22, Tryz.ntmps22
  go_wp2_with fail
  refine (HF.out _).mono ?_
  rintro e w1 ⟨rfl, hw1⟩
  obtain rfl := hw1.symm
  clear hw1
  go_upto_region 7 with fail
  change Code.wp _ _ _ _ ((w.alloc (.cells zdl.toArray 41)).alloc (.cells #[.bool false, .slice none 0 0] 84))
  change Hid (VA ((w.alloc (.cells zdl.toArray 41)).alloc (.cells #[.bool false, .slice none 0 0] 84)) _ _ _) at VR_0
  change Hid (V2 ((w.alloc (.cells zdl.toArray 41)).alloc (.cells #[.bool false, .slice none 0 0] 84)) _ _ _ _) at CV_0
  change Hid (Below _ _ ((w.alloc (.cells zdl.toArray 41)).alloc (.cells #[.bool false, .slice none 0 0] 84))) at BB_0
  obtain ⟨q, hq⟩ : ∃ q, q = w.heap.size + 1 := ⟨_, rfl⟩
  have HQ : Hid (q = w.heap.size + 1) := hq
  rw [← hq] at CV_0
  rw [← hq]
  clear hq
  generalize ((w.alloc (.cells zdl.toArray 41)).alloc (.cells #[.bool false, .slice none 0 0] 84)) = w2 at *
  go_wp2_with fail
  go_loopw [7, 8, 9] (fun a b c wr => ∃ (p V sc : Nat) (mn pt : Bool) (sv : Value), p ≤ s.size ∧ c = .int .i64 (p : Int) ∧ a = .int .i64 (sc : Int) ∧ b = .bool pt ∧ Hid (Std s neg i j V1 p V sc mn pt) ∧ Hid (V2 wr q (.bool mn) sv 84) ∧ Hid (Nm wr sv V) ∧ Hid (VA wr w.heap.size zdl 41) ∧ Hid (Below w.heap.size w wr)) (fun _ _ c _ => s.size - (intOf c).toNat)
  case atStart => exact ⟨0, 0, 0, false, false, _, by omega, rfl, rfl, rfl, Std.start HC.out, CV_0, nm_nil _, VR_0, BB_0⟩
  case round =>
    clear CV_0 VR_0 BB_0
    obtain ⟨p, V, sc, mn, pt, sv, hp, rfl, rfl, rfl, HST, CV, NM, VR, BB⟩ := hrel
    by_cases hpe : p = s.size
    · subst hpe
      have hpl : ¬ ((s.size : Int) < s.size) := by omega
      have r0 := CV.out.c0
      have r1 := CV.out.c1
      go_wp2_with fail
      refine (HD.out _ _ V sc mn pt HST.out ⟨_, rfl, NM.out⟩).mono ?_
      rintro e w3 ⟨rfl, b3⟩
      have VR_3 := (show Hid _ from (VR.out.step b3).alloc (.cells #[.int .i64 X0, .int .u64 X1, .int .i64 X2] 41))
      have VX_3 := (show Hid _ from va_new w3 [.int .i64 X0, .int .u64 X1, .int .i64 X2] 41)
      have BB_3 := (show Hid _ from (BB.out.trans (b3.mono BB.out.size)).alloc (BB.out.trans (b3.mono BB.out.size)).size (.cells #[.int .i64 X0, .int .u64 X1, .int .i64 X2] 41))
      clear b3 VR BB CV NM r0 r1
      go_upto_region 19 with fail
      change Code.wp _ _ _ _ (w3.alloc (.cells #[.int .i64 X0, .int .u64 X1, .int .i64 X2] 41))
      change Hid (VA (w3.alloc (.cells #[.int .i64 X0, .int .u64 X1, .int .i64 X2] 41)) _ _ _) at VX_3
      generalize w3.alloc (.cells #[.int .i64 X0, .int .u64 X1, .int .i64 X2] 41) = w4 at *
      generalize w3.heap.size = r at *
      go_wp2_with (first | (refine ldA rfl 41 _ rfl r (by rfl) [.int .i64 X0, .int .u64 X1, .int .i64 X2] _ VX_3.out _ Tryz.underlying41 rfl infoD ?_) | (refine stA rfl 41 _ _ rfl w.heap.size (by rfl) zdl [.int .i64 X0, .int .u64 X1, .int .i64 X2] (by rfl) 41 VR_3.out infoD rfl (by intro v hv; simp at hv; rcases hv with rfl | rfl | rfl <;> rfl) ?_; intro wf vf uf))
      have hld := run_loadVar_row (P := Tryz.prog) wf w.heap.size 41 41 _ (0, 0) _ vf.blk Tryz.underlying41 rfl infoD
      exact bodyPost_ret (v := .tuple #[.agg #[.int .i64 X0, .int .u64 X1, .int .i64 X2], .int .i64 0, .int .i64 E]) (by simp [results, Tryz.results22, asAddr, hld]) rfl ⟨rfl, uf.bel BB_3.out (Nat.le_refl _)⟩
    · have hps : p < s.size := by omega
      clear hpe
      by_cases hpi : p < i
      · obtain ⟨ST2, hb⟩ := HST.out.minus HC.out hpi
        have HST2 := (show Hid _ from ST2)
        rw [bt_in hps] at hb
        have q45 : ((s[p].toNat : Int) == 45) = true := by rw [beq_iff_eq]; omega
        have r0 := CV.out.c0
        have f0 := CV.out.free 0
        clear ST2 hb hpi
        go_wp2_with fail
        refine ⟨⟨p + 1, V, sc, true, pt, sv, by omega, by simp, rfl, rfl, HST2, (show Hid _ from CV.out.set0 (.bool true)), (show Hid _ from NM.out.store CV.out.blk (by decide) 0 (.bool true)), (show Hid _ from VR.out.set_other (q := q) (by have := HQ.out; omega) 0 (.bool true)), (show Hid _ from BB.out.setCell (p := ⟨q, 0, none⟩) (by have := HQ.out; show _ ≤ q; omega) (.bool true))⟩, by simp [intOf] <;> omega⟩
      · by_cases hpj : p = j
        · have HST2 : Hid (Std s neg i j V1 (p + 1) V sc mn true) := (by subst hpj; exact HST.out.dot HC.out : Std s neg i j V1 (p + 1) V sc mn true)
          have hb := HC.out.dot (by omega)
          rw [← hpj, bt_in hps] at hb
          have q45 : ((s[p].toNat : Int) == 45) = false := by rw [beq_eq_false_iff_ne]; omega
          have q46 : ((s[p].toNat : Int) == 46) = true := by rw [beq_iff_eq]; omega
          clear hb hpj hpi
          go_wp2_with fail
          refine ⟨⟨p + 1, V, sc, mn, true, sv, by omega, by simp, rfl, rfl, HST2, CV, NM, VR, BB⟩, by simp [intOf] <;> omega⟩
        · have HIP : Hid (i ≤ p) := (by omega : i ≤ p)
          have HNJ : Hid (p ≠ j) := hpj
          obtain ⟨hps2, hd1, hd2⟩ := HC.out.dig p hps HIP.out hpj
          obtain ⟨x, hx⟩ : ∃ x, x = s[p].toNat - 48 := ⟨_, rfl⟩
          have hsx : (s[p].toNat : Int) = 48 + x := by omega
          have hx9 : x ≤ 9 := by omega
          have HDX : Hid (dgt s p = x) := (by unfold dgt; rw [dif_pos hps, hx] : dgt s p = x)
          have q45 : ((s[p].toNat : Int) == 45) = false := by rw [beq_eq_false_iff_ne]; omega
          have q46 : ((s[p].toNat : Int) == 46) = false := by rw [beq_eq_false_iff_ne]; omega
          have hsm := HST.out.small HC.out hs64.out hp
          have hscb := hsm.2
          have HMV : Hid (Md V) := (md64 hsm.1).1
          have HMW : Hid (Md (V * 10)) := (md64 hsm.1).2
          clear hsm
          have HWX : Hid (IntKind.u8.wrap (48 + (x : Int) - 48) = (x : Int)) := (by rw [show (48 : Int) + x - 48 = x by omega]; simp [IntKind.wrap, IntKind.signed, IntKind.bits]; omega : IntKind.u8.wrap (48 + (x : Int) - 48) = (x : Int))
          have HMx : Hid (Md x) := md_of (k := 4) (by omega) (by decide)
          clear hpi hpj hx hd1 hd2
          go_upto_region 11 with fail
          refine wp_region_noPanic ?_
          refine wp_region_held_drew (S := fun _ => True) (by kernel_rfl) trivial (fun hHeld => ?_)
          refine takeD 0 29 (.pointer (some ⟨q, 1, none⟩)) (by exact rfl) rfl (by kernel_rfl) (by kernel_rfl) (by kernel_rfl) (fun _ _ _ h => h) (Or.inl ⟨by rfl, ?_⟩) (by assumption) ?_
          · intro wq hS
            go_simp
          try simp only [Act.put, List.setIfInBounds_toArray, List.set_cons_zero, List.set_cons_succ]
          refine takeD 4 33 (.string s) (by exact rfl) rfl (by kernel_rfl) (by kernel_rfl) (by kernel_rfl) (fun _ _ _ h => h) (Or.inl ⟨by rfl, ?_⟩) (by assumption) ?_
          · intro wq hS
            go_simp
          try simp only [Act.put, List.setIfInBounds_toArray, List.set_cons_zero, List.set_cons_succ]
          refine takeD 5 34 (.int .i64 (p : Int)) (by exact rfl) rfl (by kernel_rfl) (by kernel_rfl) (by kernel_rfl) (fun _ _ _ h => h) (Or.inl ⟨by rfl, ?_⟩) (by assumption) ?_
          · intro wq hS
            go_simp
          try simp only [Act.put, List.setIfInBounds_toArray, List.set_cons_zero, List.set_cons_succ]
          refine takeD 6 35 (.int .u8 (s[p].toNat : Int)) (by exact rfl) rfl (by kernel_rfl) (by kernel_rfl) (by kernel_rfl) (fun _ _ _ h => h) (Or.inl ⟨by rfl, ?_⟩) (by assumption) ?_
          · intro wq hS
            go_simp
          try simp only [Act.put, List.setIfInBounds_toArray, List.set_cons_zero, List.set_cons_succ]
          refine takeD 7 36 (.int .u8 (x : Int)) (by exact rfl) rfl (by kernel_rfl) (by kernel_rfl) (by kernel_rfl) (fun _ _ _ h => h) (Or.inl ⟨by rfl, ?_⟩) (by assumption) ?_
          · intro wq hS
            go_simp
            exact HWX.out
          try simp only [Act.put, List.setIfInBounds_toArray, List.set_cons_zero, List.set_cons_succ]
          refine takeD 8 37 (.int .u64 (x : Int)) (by exact rfl) rfl (by kernel_rfl) (by kernel_rfl) (by kernel_rfl) (fun _ _ _ h => h) (Or.inl ⟨by rfl, ?_⟩) (by assumption) ?_
          · intro wq hS
            go_simp
            rw [IntKind.wrap_u64]
            omega
          try simp only [Act.put, List.setIfInBounds_toArray, List.set_cons_zero, List.set_cons_succ]
          clear hHeld
          have CV_z := (show Hid _ from CV.out.drew)
          have VR_z := (show Hid _ from VR.out.drew)
          have NM_z := (show Hid _ from NM.out.drew)
          have BB_z := (show Hid _ from BB.out.drew)
          clear CV VR NM BB
          generalize wr.drew = wz at *
          refine wpAnyH_ready (rs := [1, 2]) (by kernel_rfl) (by simp) ?_
          refine AllReadyH.cons (by exact rfl) (fun K hK => ?_) (AllReadyH.cons (by exact rfl) (fun K hK => ?_) AllReadyH.nil)
          · have c1 := CV_z.out.c1
            go_simp
            refine hK.out _ _ trivial (fun hHeld => ?_)
            try simp only [Act.put, List.setIfInBounds_toArray, List.set_cons_zero, List.set_cons_succ]
            clear hK K hHeld c1
            refine wpAnyH_ready (rs := [2]) (by kernel_rfl) (by simp) ?_
            refine AllReadyH.cons (by exact rfl) (fun K hK => ?_) AllReadyH.nil
            go_simp
            refine (word_ok 10 _ (by decide) (by decide)).mono ?_
            rintro e w4 ⟨⟨u10, rfl, hu⟩, k4⟩
            have CV_4 := (show Hid _ from CV_z.out.step k4)
            have VR_4 := (show Hid _ from VR_z.out.step k4)
            have NM_4 := (show Hid _ from NM_z.out.step k4)
            have BB_4 := (show Hid _ from BB_z.out.trans (k4.mono BB_z.out.size))
            have NT_4 : Hid (Nm w4 u10 10) := hu
            clear hu k4 CV_z VR_z BB_z NM_z
            go_wp2_with fail
            refine hK.out _ _ trivial (fun hHeld => ?_)
            try simp only [Act.put, List.setIfInBounds_toArray, List.set_cons_zero, List.set_cons_succ]
            clear hK K hHeld
            refine wpAnyH_ready (rs := [3]) (by kernel_rfl) (by simp) ?_
            refine AllReadyH.cons (by exact rfl) (fun K hK => ?_) AllReadyH.nil
            go_simp
            refine (times_ok _ _ _ _ _ NM_4.out NT_4.out HMV.out HMt.out).mono ?_
            rintro e w5 ⟨⟨tv, rfl, ht⟩, k5⟩
            have CV_5 := (show Hid _ from CV_4.out.step k5)
            have VR_5 := (show Hid _ from VR_4.out.step k5)
            have BB_5 := (show Hid _ from BB_4.out.trans (k5.mono BB_4.out.size))
            have TT_5 : Hid (Nm w5 tv (V * 10)) := ht
            clear ht k5 CV_4 VR_4 BB_4 NM_4 NT_4
            go_wp2_with fail
            refine hK.out _ _ trivial (fun hHeld => ?_)
            try simp only [Act.put, List.setIfInBounds_toArray, List.set_cons_zero, List.set_cons_succ]
            clear hK K hHeld
            
            refine wpAnyH_ready (rs := [9]) (by kernel_rfl) (by simp) ?_
            refine AllReadyH.cons (by exact rfl) (fun K hK => ?_) AllReadyH.nil
            go_simp
            refine (word_ok (x : Int) _ (by omega) (by omega)).mono ?_
            rintro e w6 ⟨⟨ux, rfl, hu⟩, k6⟩
            rw [Int.toNat_natCast] at hu
            have CV_6 := (show Hid _ from CV_5.out.step k6)
            have VR_6 := (show Hid _ from VR_5.out.step k6)
            have TT_6 := (show Hid _ from TT_5.out.step k6)
            have BB_6 := (show Hid _ from BB_5.out.trans (k6.mono BB_5.out.size))
            have NX_6 : Hid (Nm w6 ux x) := hu
            clear hu k6 CV_5 VR_5 BB_5 TT_5
            go_wp2_with fail
            refine hK.out _ _ trivial (fun hHeld => ?_)
            try simp only [Act.put, List.setIfInBounds_toArray, List.set_cons_zero, List.set_cons_succ]
            clear hK K hHeld
            
            refine wpAnyH_ready (rs := [10]) (by kernel_rfl) (by simp) ?_
            refine AllReadyH.cons (by exact rfl) (fun K hK => ?_) AllReadyH.nil
            go_simp
            refine (plus_ok _ _ _ _ _ TT_6.out NX_6.out HMW.out HMx.out).mono ?_
            rintro e w7 ⟨⟨rv, rfl, hu⟩, k7⟩
            have CV_7 := (show Hid _ from CV_6.out.step k7)
            have VR_7 := (show Hid _ from VR_6.out.step k7)
            have BB_7 := (show Hid _ from BB_6.out.trans (k7.mono BB_6.out.size))
            obtain ⟨ra, rn, rz, rfl⟩ := hu.form
            have RV_7 : Hid (Nm w7 (.slice ra rn rz) (V * 10 + x)) := hu
            clear hu k7 CV_6 VR_6 BB_6 TT_6 NX_6
            go_wp2_with fail
            refine hK.out _ _ trivial (fun hHeld => ?_)
            try simp only [Act.put, List.setIfInBounds_toArray, List.set_cons_zero, List.set_cons_succ]
            clear hK K
            refine takeD 11 40 (.pointer (some ⟨q, 1, none⟩)) (by exact rfl) rfl (by kernel_rfl) (by kernel_rfl) (by kernel_rfl) (fun _ _ _ h => h) (Or.inl ⟨by rfl, ?_⟩) (by assumption) ?_
            · intro wq hS
              go_simp
            try simp only [Act.put, List.setIfInBounds_toArray, List.set_cons_zero, List.set_cons_succ]
            clear hHeld
            
            refine wpAnyH_ready (rs := [12]) (by kernel_rfl) (by simp) ?_
            refine AllReadyH.cons (by exact rfl) (fun K hK => ?_) AllReadyH.nil
            have c1 := CV_7.out.c1
            have f1 := CV_7.out.free 1
            go_simp
            refine hK.out _ _ trivial (fun hHeld => ?_)
            try simp only [Act.put, List.setIfInBounds_toArray, List.set_cons_zero, List.set_cons_succ]
            clear hK K hHeld c1 f1
            
            refine wpAnyH_done (by kernel_rfl) ?_ _
            refine NoPanic.normal ?_
            have CV_8 := (show Hid _ from CV_7.out.set1 (.slice ra rn rz))
            have RV_8 := (show Hid _ from RV_7.out.store CV_7.out.blk (by decide) 1 (.slice ra rn rz))
            have VR_8 := (show Hid _ from VR_7.out.set_other (q := q) (by have := HQ.out; omega) 1 (.slice ra rn rz))
            have BB_8 := (show Hid _ from BB_7.out.setCell (p := ⟨q, 1, none⟩) (by have := HQ.out; show _ ≤ q; omega) (.slice ra rn rz))
            clear CV_7 RV_7 VR_7 BB_7
            have ST2 := (show Hid _ from HST.out.dig HC.out hps HIP.out HNJ.out)
            cases pt with
            | false =>
              go_wp2_with fail
              refine ⟨⟨p + 1, 10 * V + dgt s p, sc, mn, false, (.slice ra rn rz), by omega, by simp, rfl, rfl, ST2, CV_8, (show Hid (Nm _ (.slice ra rn rz) (10 * V + dgt s p)) by rw [HDX.out, Nat.mul_comm 10 V]; exact RV_8), VR_8, BB_8⟩, by simp [intOf] <;> omega⟩
            | true =>
              go_wp2_with fail
              refine ⟨⟨p + 1, 10 * V + dgt s p, sc + 1, mn, true, (.slice ra rn rz), by omega, by simp, (by first | (simp; done) | (simp; unfold wrap64; omega)), rfl, ST2, CV_8, (show Hid (Nm _ (.slice ra rn rz) (10 * V + dgt s p)) by rw [HDX.out, Nat.mul_comm 10 V]; exact RV_8), VR_8, BB_8⟩, by simp [intOf] <;> omega⟩
          · go_simp
            refine (word_ok 10 _ (by decide) (by decide)).mono ?_
            rintro e w4 ⟨⟨u10, rfl, hu⟩, k4⟩
            have CV_4 := (show Hid _ from CV_z.out.step k4)
            have VR_4 := (show Hid _ from VR_z.out.step k4)
            have NM_4 := (show Hid _ from NM_z.out.step k4)
            have BB_4 := (show Hid _ from BB_z.out.trans (k4.mono BB_z.out.size))
            have NT_4 : Hid (Nm w4 u10 10) := hu
            clear hu k4 CV_z VR_z BB_z NM_z
            go_wp2_with fail
            refine hK.out _ _ trivial (fun hHeld => ?_)
            try simp only [Act.put, List.setIfInBounds_toArray, List.set_cons_zero, List.set_cons_succ]
            clear hK K hHeld
            refine wpAnyH_ready (rs := [1]) (by kernel_rfl) (by simp) ?_
            refine AllReadyH.cons (by exact rfl) (fun K hK => ?_) AllReadyH.nil
            have c1 := CV_4.out.c1
            go_simp
            refine hK.out _ _ trivial (fun hHeld => ?_)
            try simp only [Act.put, List.setIfInBounds_toArray, List.set_cons_zero, List.set_cons_succ]
            clear hK K hHeld c1
            refine wpAnyH_ready (rs := [3]) (by kernel_rfl) (by simp) ?_
            refine AllReadyH.cons (by exact rfl) (fun K hK => ?_) AllReadyH.nil
            go_simp
            refine (times_ok _ _ _ _ _ NM_4.out NT_4.out HMV.out HMt.out).mono ?_
            rintro e w5 ⟨⟨tv, rfl, ht⟩, k5⟩
            have CV_5 := (show Hid _ from CV_4.out.step k5)
            have VR_5 := (show Hid _ from VR_4.out.step k5)
            have BB_5 := (show Hid _ from BB_4.out.trans (k5.mono BB_4.out.size))
            have TT_5 : Hid (Nm w5 tv (V * 10)) := ht
            clear ht k5 CV_4 VR_4 BB_4 NM_4 NT_4
            go_wp2_with fail
            refine hK.out _ _ trivial (fun hHeld => ?_)
            try simp only [Act.put, List.setIfInBounds_toArray, List.set_cons_zero, List.set_cons_succ]
            clear hK K hHeld
            
            refine wpAnyH_ready (rs := [9]) (by kernel_rfl) (by simp) ?_
            refine AllReadyH.cons (by exact rfl) (fun K hK => ?_) AllReadyH.nil
            go_simp
            refine (word_ok (x : Int) _ (by omega) (by omega)).mono ?_
            rintro e w6 ⟨⟨ux, rfl, hu⟩, k6⟩
            rw [Int.toNat_natCast] at hu
            have CV_6 := (show Hid _ from CV_5.out.step k6)
            have VR_6 := (show Hid _ from VR_5.out.step k6)
            have TT_6 := (show Hid _ from TT_5.out.step k6)
            have BB_6 := (show Hid _ from BB_5.out.trans (k6.mono BB_5.out.size))
            have NX_6 : Hid (Nm w6 ux x) := hu
            clear hu k6 CV_5 VR_5 BB_5 TT_5
            go_wp2_with fail
            refine hK.out _ _ trivial (fun hHeld => ?_)
            try simp only [Act.put, List.setIfInBounds_toArray, List.set_cons_zero, List.set_cons_succ]
            clear hK K hHeld
            
            refine wpAnyH_ready (rs := [10]) (by kernel_rfl) (by simp) ?_
            refine AllReadyH.cons (by exact rfl) (fun K hK => ?_) AllReadyH.nil
            go_simp
            refine (plus_ok _ _ _ _ _ TT_6.out NX_6.out HMW.out HMx.out).mono ?_
            rintro e w7 ⟨⟨rv, rfl, hu⟩, k7⟩
            have CV_7 := (show Hid _ from CV_6.out.step k7)
            have VR_7 := (show Hid _ from VR_6.out.step k7)
            have BB_7 := (show Hid _ from BB_6.out.trans (k7.mono BB_6.out.size))
            obtain ⟨ra, rn, rz, rfl⟩ := hu.form
            have RV_7 : Hid (Nm w7 (.slice ra rn rz) (V * 10 + x)) := hu
            clear hu k7 CV_6 VR_6 BB_6 TT_6 NX_6
            go_wp2_with fail
            refine hK.out _ _ trivial (fun hHeld => ?_)
            try simp only [Act.put, List.setIfInBounds_toArray, List.set_cons_zero, List.set_cons_succ]
            clear hK K
            refine takeD 11 40 (.pointer (some ⟨q, 1, none⟩)) (by exact rfl) rfl (by kernel_rfl) (by kernel_rfl) (by kernel_rfl) (fun _ _ _ h => h) (Or.inl ⟨by rfl, ?_⟩) (by assumption) ?_
            · intro wq hS
              go_simp
            try simp only [Act.put, List.setIfInBounds_toArray, List.set_cons_zero, List.set_cons_succ]
            clear hHeld
            
            refine wpAnyH_ready (rs := [12]) (by kernel_rfl) (by simp) ?_
            refine AllReadyH.cons (by exact rfl) (fun K hK => ?_) AllReadyH.nil
            have c1 := CV_7.out.c1
            have f1 := CV_7.out.free 1
            go_simp
            refine hK.out _ _ trivial (fun hHeld => ?_)
            try simp only [Act.put, List.setIfInBounds_toArray, List.set_cons_zero, List.set_cons_succ]
            clear hK K hHeld c1 f1
            
            refine wpAnyH_done (by kernel_rfl) ?_ _
            refine NoPanic.normal ?_
            have CV_8 := (show Hid _ from CV_7.out.set1 (.slice ra rn rz))
            have RV_8 := (show Hid _ from RV_7.out.store CV_7.out.blk (by decide) 1 (.slice ra rn rz))
            have VR_8 := (show Hid _ from VR_7.out.set_other (q := q) (by have := HQ.out; omega) 1 (.slice ra rn rz))
            have BB_8 := (show Hid _ from BB_7.out.setCell (p := ⟨q, 1, none⟩) (by have := HQ.out; show _ ≤ q; omega) (.slice ra rn rz))
            clear CV_7 RV_7 VR_7 BB_7
            have ST2 := (show Hid _ from HST.out.dig HC.out hps HIP.out HNJ.out)
            cases pt with
            | false =>
              go_wp2_with fail
              refine ⟨⟨p + 1, 10 * V + dgt s p, sc, mn, false, (.slice ra rn rz), by omega, by simp, rfl, rfl, ST2, CV_8, (show Hid (Nm _ (.slice ra rn rz) (10 * V + dgt s p)) by rw [HDX.out, Nat.mul_comm 10 V]; exact RV_8), VR_8, BB_8⟩, by simp [intOf] <;> omega⟩
            | true =>
              go_wp2_with fail
              refine ⟨⟨p + 1, 10 * V + dgt s p, sc + 1, mn, true, (.slice ra rn rz), by omega, by simp, (by first | (simp; done) | (simp; unfold wrap64; omega)), rfl, ST2, CV_8, (show Hid (Nm _ (.slice ra rn rz) (10 * V + dgt s p)) by rw [HDX.out, Nat.mul_comm 10 V]; exact RV_8), VR_8, BB_8⟩, by simp [intOf] <;> omega⟩
end Go.Proofs.YteohncnjjgoemaaGreatDoor.dg
/- digits: a text without a fault is the text of its number. -/
namespace Go.Proofs.YteohncnjjgoemaaGreatDoor.dg
open Go.RowKit
set_option linter.unusedVariables false
set_option linter.unusedSimpArgs false

theorem nv_dig (s : ByteArray) (i M : Nat) : ∀ n, (∀ q, q < n → isDg s (i + q)) → nv s i M n / 10 ^ n = M ∧ ∀ k, k < n → nv s i M n / 10 ^ (n - 1 - k) % 10 = dgt s (i + k)
  | 0, _ => ⟨by simp [nv], fun k hk => absurd hk (by omega)⟩
  | n + 1, hd => by
    obtain ⟨h1, h2⟩ := nv_dig s i M n (fun q hq => hd q (by omega))
    obtain ⟨hx, a, b⟩ := hd n (by omega)
    have h9 : dgt s (i + n) ≤ 9 := by unfold dgt; rw [dif_pos hx]; omega
    have e10 : nv s i M (n + 1) / 10 = nv s i M n := by rw [nv]; omega
    refine ⟨?_, fun k hk => ?_⟩
    · rw [Nat.pow_succ, Nat.mul_comm, ← Nat.div_div_eq_div_mul, e10, h1]
    · by_cases hkn : k = n
      · subst hkn
        rw [show k + 1 - 1 - k = 0 by omega, Nat.pow_zero, Nat.div_one, nv]
        omega
      · rw [show n + 1 - 1 - k = (n - 1 - k) + 1 by omega, Nat.pow_succ, Nat.mul_comm, ← Nat.div_div_eq_div_mul, e10]
        exact h2 k (by omega)
theorem ba_ext {a b : ByteArray} (hs : a.size = b.size) (h : ∀ k, k < a.size → bt a k = bt b k) : a = b := by
  apply ByteArray.ext
  apply Array.ext
  · exact hs
  · intro k h1 h2
    have h1' : k < a.size := h1
    have h2' : k < b.size := h2
    have := h k h1'
    rw [bt_in h1', bt_in h2'] at this
    exact UInt8.toNat_inj.1 this
/-- a text without a fault: n digits in front, sc behind -/
structure Fine (s : ByteArray) (neg : Bool) (i n sc V1 V : Nat) : Prop where
  ng : (neg = true ∧ i = 1 ∧ bt s 0 = 45) ∨ (neg = false ∧ i = 0 ∧ bt s 0 ≠ 45)
  n1 : 1 ≤ n
  z : n = 1 ∨ bt s i ≠ 48
  fr : ∀ k, k < n → isDg s (i + k)
  e1 : V1 = nv s i 0 n
  s18 : sc ≤ 18
  sz : s.size = i + n + (if sc = 0 then 0 else 1 + sc)
  dot : 0 < sc → bt s (i + n) = 46
  bk : ∀ k, k < sc → isDg s (i + n + 1 + k)
  e2 : V = nv s (i + n + 1) V1 sc
theorem Fine.text {s : ByteArray} {neg : Bool} {i n sc V1 V : Nat} (h : Fine s neg i n sc V1 V) (hV : V < B127) (hn : neg = true → V ≠ 0) : Places sc V (sc + n) ∧ tx (wtx (sg neg V) sc (sc + n)) = s := by
  obtain ⟨a1, a2⟩ := nv_dig s i 0 n h.fr
  obtain ⟨b1, b2⟩ := nv_dig s (i + n + 1) V1 sc h.bk
  rw [← h.e1] at a1 a2
  rw [← h.e2] at b1 b2
  have h1 := h.n1
  have hfront : ∀ k, k < n → V / 10 ^ (sc + n - 1 - k) % 10 = dgt s (i + k) := fun k hk => by
    rw [show sc + n - 1 - k = sc + (n - 1 - k) by omega, Nat.pow_add, ← Nat.div_div_eq_div_mul, b1]
    exact a2 k hk
  have htop : V / 10 ^ (sc + n) = 0 := by rw [Nat.pow_add, ← Nat.div_div_eq_div_mul, b1, a1]
  have hld : n = 1 ∨ V / 10 ^ (sc + n - 1) ≠ 0 := by
    rcases h.z with hz | hz
    · exact Or.inl hz
    · right
      have := hfront 0 (by omega)
      rw [Nat.sub_zero, Nat.add_zero] at this
      have hd0 := isDg_iff.1 (h.fr 0 (by omega))
      rw [Nat.add_zero] at hd0
      have hx : i < s.size := bt_lt.1 (by omega)
      have hd : dgt s i ≠ 0 := by
        rw [dgt_bt hx]
        omega
      intro e
      rw [e] at this
      simp at this
      exact hd this.symm
  have hP : Places sc V (sc + n) := by
    refine ⟨by omega, ?_, htop, fun j hj => ?_⟩
    · rcases hld with hz | hz
      · have := h.s18; omega
      · rcases Nat.lt_or_ge 39 (sc + n) with hg | hg
        · exfalso
          apply hz
          apply Nat.div_eq_of_lt
          have h39 : V < 10 ^ 39 := Nat.lt_trans hV (by decide)
          exact Nat.lt_of_lt_of_le h39 (Nat.pow_le_pow_right (by decide) (by omega))
        · exact hg
    · rcases hld with hz | hz
      · left; omega
      · right
        intro e
        apply hz
        rw [show sc + n - 1 = j + (sc + n - 1 - j) by omega, Nat.pow_add, ← Nat.div_div_eq_div_mul, e]
        simp
  refine ⟨hP, ?_⟩
  have hir : InR (sg neg V) := by
    unfold B127 at hV
    unfold sg
    constructor <;> rw [M127_eq] <;> split <;> omega
  have habs : (sg neg V).natAbs = V := by unfold sg; split <;> omega
  have hP' : Places sc (sg neg V).natAbs (sc + n) := by rw [habs]; exact hP
  have T := txt_any (sg neg V) sc (sc + n) hir h.s18 hP'
  rw [habs, show sc + n - sc = n by omega] at T
  have hi : (if sg neg V < 0 then 1 else 0) = i := by
    rcases h.ng with ⟨rfl, rfl, _⟩ | ⟨rfl, rfl, _⟩
    · have := hn rfl
      rw [if_pos]
      unfold sg
      simp
      omega
    · rw [if_neg]
      unfold sg
      simp
  rw [hi] at T
  refine ba_ext (by rw [T.sz, h.sz]) (fun k hk => ?_)
  have hsz := T.sz
  have dgl : ∀ {p x : Nat}, isDg s p → x = dgt s p → 48 + x = bt s p := fun {p x} hd hx => by
    obtain ⟨hp, c1, c2⟩ := hd
    rw [hx, dgt_bt hp]
    rw [← bt_in hp] at c1
    omega
  rw [hsz] at hk
  by_cases hki : k < i
  · rcases h.ng with ⟨rfl, rfl, hb⟩ | ⟨rfl, rfl, hb⟩
    · have : k = 0 := by omega
      subst this
      rw [hb]
      rcases T.mi with ⟨_, _, hh⟩ | ⟨_, hh⟩
      · exact hh
      · omega
    · omega
  · by_cases hkn : k < i + n
    · have := T.fr (k - i) (by omega)
      rw [show i + (k - i) = k by omega] at this
      rw [this]
      have hd := h.fr (k - i) (by omega)
      have hf := hfront (k - i) (by omega)
      rw [show i + (k - i) = k by omega] at hd hf
      exact dgl hd hf
    · have hsc : 0 < sc := by
        rcases Nat.eq_zero_or_pos sc with h0 | h0
        · rw [if_pos h0] at hk; omega
        · exact h0
      rw [if_neg (by omega)] at hk
      by_cases hkd : k = i + n
      · rw [hkd, T.pt hsc, h.dot hsc]
      · have := T.bk (k - (i + n + 1)) (by omega)
        rw [show i + n + 1 + (k - (i + n + 1)) = k by omega] at this
        rw [this]
        have hd := h.bk (k - (i + n + 1)) (by omega)
        have hf := b2 (k - (i + n + 1)) (by omega)
        rw [show i + n + 1 + (k - (i + n + 1)) = k by omega] at hd hf
        exact dgl hd hf
theorem dwrite_at (c : Int) (s K : Nat) (hc : InR c) (hs : s ≤ 18) (hK : Places s c.natAbs K) (w : World) : Calls Tryz.prog 12 #[.agg #[.int .i64 (dhi c), .int .u64 (dlo c), .int .i64 (s : Int)]] w fun e w' => e = .returned (.tuple #[.string (tx (wtx c s K)), .int .i64 0]) ∧ Below w.heap.size w w' := by
  have h1 := hc.lo
  have h2 := hc.hi
  rw [M127_eq] at h1 h2
  have e : c.natAbs / 18446744073709551616 * 18446744073709551616 + c.natAbs % 18446744073709551616 = c.natAbs := by omega
  by_cases h0 : c < 0
  · have := dwrite_neg c _ _ (c.natAbs % 18446744073709551616) (c.natAbs / 18446744073709551616) s K w (IsD.self c) hc (by omega) h0 (by unfold dhi; omega) (by unfold dlo; omega) (by omega) (by omega) (by rw [e]; exact hK)
    rw [e] at this
    unfold wtx tx
    rw [if_pos h0]
    exact this
  · have := dwrite_pos c (dhi c) (dlo c) (c.natAbs % 18446744073709551616) (c.natAbs / 18446744073709551616) s K w (IsD.self c) hc (by omega) (by omega) (by unfold dhi; omega) (by unfold dlo; omega) (by omega) (by omega) (by rw [e]; exact hK)
    rw [e] at this
    unfold wtx tx
    rw [if_neg h0]
    exact this
/-- both readers answer alike, and what is read is written as that text -/
structure Both (s : ByteArray) (x0 x1 x2 at' e : Int) : Prop where
  a : ∀ w, Calls Tryz.prog 20 #[.string s] w fun r w' => r = .returned (.tuple #[.agg #[.int .i64 x0, .int .u64 x1, .int .i64 x2], .int .i64 at', .int .i64 e]) ∧ Below w.heap.size w w'
  b : ∀ w, Calls Tryz.prog 22 #[.string s] w fun r w' => r = .returned (.tuple #[.agg #[.int .i64 x0, .int .u64 x1, .int .i64 x2], .int .i64 at', .int .i64 e]) ∧ Below w.heap.size w w'
  c : e = 0 → ∀ w, Calls Tryz.prog 12 #[.agg #[.int .i64 x0, .int .u64 x1, .int .i64 x2]] w fun r w' => r = .returned (.tuple #[.string s, .int .i64 0]) ∧ Below w.heap.size w w'
  d : e = 0 → ∃ (z : Int) (sc K : Nat), InR z ∧ sc ≤ 18 ∧ x0 = dhi z ∧ x1 = dlo z ∧ x2 = sc ∧ Places sc z.natAbs K ∧ tx (wtx z sc K) = s
def Bth (s : ByteArray) : Prop := ∃ x0 x1 x2 a e, Both s x0 x1 x2 a e
theorem both_fault {s : ByteArray} (k : Nat) (hs : s.size ≤ 64) (hP : PF s k) (hF : ∀ w, Calls Tryz.prog 47 #[.string s] w fun e w' => e = .returned (.int .i64 (k : Int)) ∧ w' = w) : Bth s :=
  ⟨0, 0, 0, k, 6, hP, fun w => dp_fault s k w hs hF, (fun h => by cases h), (fun h => by cases h)⟩
theorem both_long {s : ByteArray} (hs : 64 < s.size) : Bth s := ⟨0, 0, 0, 0, 2, fun w => parse_long s w hs, fun w => dp_long s w hs, (fun h => by cases h), (fun h => by cases h)⟩
theorem Fine.mins {s : ByteArray} {neg : Bool} {i n sc V1 V : Nat} (h : Fine s neg i n sc V1 V) : Mins s neg i := by
  constructor
  rcases h.ng with ⟨a, b, c⟩ | ⟨a, b, c⟩
  · exact Or.inl ⟨a, c, b⟩
  · exact Or.inr ⟨a, c, b⟩
theorem whol_of {s : ByteArray} {i n : Nat} (h1 : 1 ≤ n) (hz : n = 1 ∨ bt s i ≠ 48) (hr : Runs s i n) : Whol s i (i + n) (nv s i 0 n) := by
  constructor
  by_cases h0 : bt s i = 48
  · left
    have hn : n = 1 := by rcases hz with h | h; exact h; exact absurd h0 h
    subst hn
    refine ⟨h0, rfl, ?_⟩
    have hx : i < s.size := bt_lt.1 (by omega)
    simp [nv, dgt_bt hx, h0]
  · exact Or.inr ⟨h0, n, h1, rfl, hr.d, hr.x, rfl⟩
/-- both readers at a text without a fault -/
theorem Fine.both {s : ByteArray} {neg : Bool} {i n sc V1 V : Nat} (h : Fine s neg i n sc V1 V) (hs : s.size ≤ 64) (hw : Whol s i (i + n) V1) (hf : Frac s (i + n) s.size sc V1 V)
    (h0 : neg = true → V = 0 → ∀ w, Calls Tryz.prog 47 #[.string s] w fun e w' => e = .returned (.int .i64 0) ∧ w' = w) (h1 : ¬ (neg = true ∧ V = 0) → ∀ w, Calls Tryz.prog 47 #[.string s] w fun e w' => e = .returned (.int .i64 (-1)) ∧ w' = w) : Bth s := by
  have hsz := h.sz
  have hn1 := h.n1
  by_cases hz : neg = true ∧ V = 0
  · obtain ⟨rfl, rfl⟩ := hz
    exact both_fault 0 hs (fun w => p_nought h.mins hw hf hs rfl w) (h0 rfl rfl)
  · have hF := h1 hz
    have C : Chars s neg i (i + n) V1 := by
      refine ⟨?_, by omega, by rw [hsz]; omega, by rw [show i + n - i = n by omega]; exact h.e1, fun hj => ?_, fun p hp hip hpj => ?_⟩
      · rcases h.ng with ⟨a, b, c⟩ | ⟨a, b, c⟩
        · exact Or.inl ⟨a, b, c⟩
        · exact Or.inr ⟨a, b⟩
      · apply h.dot
        rcases Nat.eq_zero_or_pos sc with e | e
        · rw [if_pos e] at hsz; omega
        · exact e
      · by_cases hpn : p < i + n
        · have := h.fr (p - i) (by omega)
          rw [show i + (p - i) = p by omega] at this
          exact this
        · have hsc : sc ≠ 0 := by intro e; rw [if_pos e] at hsz; omega
          rw [if_neg hsc] at hsz
          have := h.bk (p - (i + n + 1)) (by omega)
          rw [show i + n + 1 + (p - (i + n + 1)) = p by omega] at this
          exact this
    have last : ∀ {V' sc' mn pt}, Std s neg i (i + n) V1 s.size V' sc' mn pt → V' = V ∧ sc' = sc ∧ mn = neg := by
      intro V' sc' mn pt S
      have hmn : mn = neg := by rw [S.mi]; simp; omega
      rcases Nat.eq_zero_or_pos sc with e | e
      · rw [if_pos e] at hsz
        obtain ⟨a, _, b⟩ := S.lo (by omega)
        refine ⟨?_, by omega, hmn⟩
        rw [a, h.e2, e, nv, h.e1, show s.size - i = n by omega]
      · rw [if_neg (by omega)] at hsz
        obtain ⟨a, _, b⟩ := S.hi (by omega)
        have e3 : s.size - (i + n + 1) = sc := by omega
        rw [e3] at a b
        exact ⟨by rw [a, h.e2], b, hmn⟩
    have hin : ∀ {v w}, Wn w v neg V → In w v (sg neg V) := by
      intro v w hwn
      refine ⟨neg, ?_, fun hp => ?_, fun hp => ?_⟩
      · rw [show (sg neg V).natAbs = V by unfold sg; split <;> omega]; exact hwn
      · cases neg with
        | false => rfl
        | true => unfold sg at hp; simp at hp; omega
      · cases neg with
        | true => rfl
        | false => unfold sg at hp; simp at hp; omega
    by_cases hV : V < B127
    · have hir : InR (sg neg V) := by
        unfold B127 at hV
        unfold sg
        constructor <;> rw [M127_eq] <;> split <;> omega
      obtain ⟨hP, ht⟩ := h.text hV (fun e e2 => hz ⟨e, e2⟩)
      refine ⟨dhi (sg neg V), dlo (sg neg V), (sc : Int), 0, 0, fun w => p_yes h.mins hw hf hs rfl hV (fun e e2 => hz ⟨e, e2⟩) w, fun w => dp_fin s neg i (i + n) V1 w hs C hF _ _ _ _ (fun v w V' sc' mn pt S hwn => ?_), fun _ w => ?_, fun _ => ⟨sg neg V, sc, sc + n, hir, h.s18, rfl, rfl, rfl, by rw [show (sg neg V).natAbs = V by unfold sg; split <;> omega]; exact hP, ht⟩⟩
      · obtain ⟨rfl, rfl, rfl⟩ := last S
        exact decr_ok v _ _ w (hin hwn) hir
      · have := dwrite_at (sg neg V) sc (sc + n) hir h.s18 (by rw [show (sg neg V).natAbs = V by unfold sg; split <;> omega]; exact hP) w
        rw [ht] at this
        exact this
    · refine ⟨0, 0, 0, 0, 4, fun w => p_great h.mins hw hf hs rfl hV w, fun w => dp_fin s neg i (i + n) V1 w hs C hF _ _ _ _ (fun v w V' sc' mn pt S hwn => ?_), (fun h => by cases h), (fun h => by cases h)⟩
      obtain ⟨rfl, rfl, rfl⟩ := last S
      refine decr_big v _ _ w (hin hwn) ?_
      rw [M127_eq, show (sg mn V').natAbs = V' by unfold sg; split <;> omega]
      unfold B127 at hV
      omega
end Go.Proofs.YteohncnjjgoemaaGreatDoor.dg
/- digits: both readers at every text; DigitsReads' walk. -/
namespace Go.Proofs.YteohncnjjgoemaaGreatDoor.dg
open Go.RowKit
set_option linter.unusedVariables false
set_option linter.unusedSimpArgs false

theorem both_pos (s : ByteArray) (hs : s.size ≤ 64) (hb : bt s 0 ≠ 45) : Bth s := by
  have hm : Mins s false 0 := ⟨Or.inr ⟨rfl, hb, rfl⟩⟩
  obtain ⟨n, hr⟩ := runs_any s 0
  have hle := hr.le (i := 0) hm.le
  rcases Nat.eq_zero_or_pos n with h0 | h1
  · subst h0
    have hx : ¬ isDg s 0 := hr.x
    exact both_fault 0 hs (fun w => p_none hm hs hx w) (fun w => fC1_pos s w hb hs hx)
  · by_cases hz : 2 ≤ n ∧ bt s 0 = 48
    · obtain ⟨h2, h48⟩ := hz
      exact both_fault 1 hs (p_lead hm hs h48 (hr.d 1 (by omega))) (fun w => fC2_pos s n w hb hs hr h2 h48)
    · have hz' : n = 1 ∨ bt s 0 ≠ 48 := by
        by_cases h : bt s 0 = 48
        · exact Or.inl (by omega)
        · exact Or.inr h
      have hw := whol_of h1 hz' hr
      by_cases hd : bt s (0 + n) = 46
      · obtain ⟨m, hrm⟩ := runs_any s (0 + n + 1)
        have hlj : 0 + n < s.size := bt_lt.1 (by omega)
        have hlm := hrm.le (by omega)
        rcases Nat.eq_zero_or_pos m with h0 | hm1
        · have hx : ¬ isDg s (0 + n + 1) := by have := hrm.x; rw [h0] at this; exact this
          exact both_fault (0 + n + 1) hs (fun w => p_point hm hw hs hd hx w) (fun w => fC4_pos s n w hb hs hr h1 hz' m hd hrm h0)
        · by_cases h19 : 19 ≤ m
          · have hf : Frac s (0 + n) (0 + n + 1 + 18) 18 (nv s 0 0 n) (nv s (0 + n + 1) (nv s 0 0 n) 18) := ⟨Or.inr ⟨hd, by decide, by decide, rfl, fun k hk => hrm.d k (by omega), Or.inl rfl, rfl⟩⟩
            exact both_fault (0 + n + 1 + 18) hs (fun w => p_more hm hw hf hs (by omega) w) (fun w => fC5_pos s n w hb hs hr h1 hz' m hd hrm h19)
          · have hf : Frac s (0 + n) (0 + n + 1 + m) m (nv s 0 0 n) (nv s (0 + n + 1) (nv s 0 0 n) m) := ⟨Or.inr ⟨hd, hm1, by omega, rfl, hrm.d, Or.inr hrm.x, rfl⟩⟩
            by_cases hfs : 0 + n + 1 + m < s.size
            · exact both_fault (0 + n + 1 + m) hs (fun w => p_more hm hw hf hs hfs w) (fun w => fC6lt_pos s n w hb hs hr h1 hz' m hd hrm hm1 (by omega) hfs)
            · have he : 0 + n + 1 + m = s.size := by omega
              have F : Fine s false 0 n m (nv s 0 0 n) (nv s (0 + n + 1) (nv s 0 0 n) m) := ⟨Or.inr ⟨rfl, rfl, hb⟩, h1, hz', hr.d, rfl, by omega, by rw [if_neg (by omega)]; omega, fun _ => hd, hrm.d, rfl⟩
              rw [he] at hf
              exact F.both hs hw hf (fun e => by cases e) (fun _ w => fC6eq_pos s n w hb hs hr h1 hz' m hd hrm hm1 (by omega) he)
      · by_cases hfs : 0 + n < s.size
        · have hf : Frac s (0 + n) (0 + n) 0 (nv s 0 0 n) (nv s 0 0 n) := ⟨Or.inl ⟨hd, rfl, rfl, rfl⟩⟩
          exact both_fault (0 + n) hs (fun w => p_more hm hw hf hs hfs w) (fun w => fC3lt_pos s n w hb hs hr h1 hz' hfs hd)
        · have he : 0 + n = s.size := by omega
          have hf : Frac s (0 + n) s.size 0 (nv s 0 0 n) (nv s 0 0 n) := ⟨Or.inl ⟨hd, he.symm, rfl, rfl⟩⟩
          have F : Fine s false 0 n 0 (nv s 0 0 n) (nv s 0 0 n) := ⟨Or.inr ⟨rfl, rfl, hb⟩, h1, hz', hr.d, rfl, by omega, by rw [if_pos rfl]; omega, fun h => by omega, fun k hk => by omega, rfl⟩
          exact F.both hs hw hf (fun e => by cases e) (fun _ w => fC3eq_pos s n w hb hs hr h1 hz' he)
theorem both_neg (s : ByteArray) (hs : s.size ≤ 64) (hb : bt s 0 = 45) : Bth s := by
  have hm : Mins s true 1 := ⟨Or.inl ⟨rfl, hb, rfl⟩⟩
  obtain ⟨n, hr⟩ := runs_any s 1
  have hle := hr.le (i := 1) hm.le
  rcases Nat.eq_zero_or_pos n with h0 | h1
  · subst h0
    have hx : ¬ isDg s 1 := hr.x
    exact both_fault 1 hs (fun w => p_none hm hs hx w) (fun w => fC1_neg s w hb hs hx)
  · by_cases hz : 2 ≤ n ∧ bt s 1 = 48
    · obtain ⟨h2, h48⟩ := hz
      exact both_fault 2 hs (p_lead hm hs h48 (hr.d 1 (by omega))) (fun w => fC2_neg s n w hb hs hr h2 h48)
    · have hz' : n = 1 ∨ bt s 1 ≠ 48 := by
        by_cases h : bt s 1 = 48
        · exact Or.inl (by omega)
        · exact Or.inr h
      have hw := whol_of h1 hz' hr
      by_cases hd : bt s (1 + n) = 46
      · obtain ⟨m, hrm⟩ := runs_any s (1 + n + 1)
        have hlj : 1 + n < s.size := bt_lt.1 (by omega)
        have hlm := hrm.le (by omega)
        rcases Nat.eq_zero_or_pos m with h0 | hm1
        · have hx : ¬ isDg s (1 + n + 1) := by have := hrm.x; rw [h0] at this; exact this
          exact both_fault (1 + n + 1) hs (fun w => p_point hm hw hs hd hx w) (fun w => fC4_neg s n w hb hs hr h1 hz' m hd hrm h0)
        · by_cases h19 : 19 ≤ m
          · have hf : Frac s (1 + n) (1 + n + 1 + 18) 18 (nv s 1 0 n) (nv s (1 + n + 1) (nv s 1 0 n) 18) := ⟨Or.inr ⟨hd, by decide, by decide, rfl, fun k hk => hrm.d k (by omega), Or.inl rfl, rfl⟩⟩
            exact both_fault (1 + n + 1 + 18) hs (fun w => p_more hm hw hf hs (by omega) w) (fun w => fC5_neg s n w hb hs hr h1 hz' m hd hrm h19)
          · have hf : Frac s (1 + n) (1 + n + 1 + m) m (nv s 1 0 n) (nv s (1 + n + 1) (nv s 1 0 n) m) := ⟨Or.inr ⟨hd, hm1, by omega, rfl, hrm.d, Or.inr hrm.x, rfl⟩⟩
            by_cases hfs : 1 + n + 1 + m < s.size
            · exact both_fault (1 + n + 1 + m) hs (fun w => p_more hm hw hf hs hfs w) (fun w => fC6lt_neg s n w hb hs hr h1 hz' m hd hrm hm1 (by omega) hfs)
            · have he : 1 + n + 1 + m = s.size := by omega
              have F : Fine s true 1 n m (nv s 1 0 n) (nv s (1 + n + 1) (nv s 1 0 n) m) := ⟨Or.inl ⟨rfl, rfl, hb⟩, h1, hz', hr.d, rfl, by omega, by rw [if_neg (by omega)]; omega, fun _ => hd, hrm.d, rfl⟩
              rw [he] at hf
              exact F.both hs hw hf (fun _ hV0 w => fC6eq_neg s n w hb hs hr h1 hz' m hd hrm hm1 (by omega) he 0 (by rw [if_pos hV0])) (fun hnV w => fC6eq_neg s n w hb hs hr h1 hz' m hd hrm hm1 (by omega) he (-1) (by rw [if_neg (fun e => hnV ⟨rfl, e⟩)]))
      · by_cases hfs : 1 + n < s.size
        · have hf : Frac s (1 + n) (1 + n) 0 (nv s 1 0 n) (nv s 1 0 n) := ⟨Or.inl ⟨hd, rfl, rfl, rfl⟩⟩
          exact both_fault (1 + n) hs (fun w => p_more hm hw hf hs hfs w) (fun w => fC3lt_neg s n w hb hs hr h1 hz' hfs hd)
        · have he : 1 + n = s.size := by omega
          have hf : Frac s (1 + n) s.size 0 (nv s 1 0 n) (nv s 1 0 n) := ⟨Or.inl ⟨hd, he.symm, rfl, rfl⟩⟩
          have F : Fine s true 1 n 0 (nv s 1 0 n) (nv s 1 0 n) := ⟨Or.inl ⟨rfl, rfl, hb⟩, h1, hz', hr.d, rfl, by omega, by rw [if_pos rfl]; omega, fun h => by omega, fun k hk => by omega, rfl⟩
          exact F.both hs hw hf (fun _ hV0 w => fC3eq_neg s n w hb hs hr h1 hz' he 0 (by rw [if_pos hV0])) (fun hnV w => fC3eq_neg s n w hb hs hr h1 hz' he (-1) (by rw [if_neg (fun e => hnV ⟨rfl, e⟩)]))
theorem both_any (s : ByteArray) : Bth s := by
  by_cases hl : 64 < s.size
  · exact both_long hl
  · by_cases hb : bt s 0 = 45
    · exact both_neg s (by omega) hb
    · exact both_pos s (by omega) hb
end Go.Proofs.YteohncnjjgoemaaGreatDoor.dg
