/- disk LXII: the law's call: all but Append. -/
import Derived.Test.YtakgkpiicigihaaM6
import Derived.Deep.CutBlock
namespace Go.Proofs.Ytakgkpiicigihaa
open Go.RowKit Go.Maps Go.Sort Go.Shelf pk
set_option linter.unusedVariables false
set_option linter.unusedSimpArgs false

set_option maxRecDepth 100000 in
set_option maxHeartbeats 2000000 in
theorem call_1 (w : World) (B N : Nat) (P Q : Value) (h : St w B P Q N) (hN : N ≤ 1000000) (a b : ByteArray) (ha : a.size ≤ 9223372036854775807) (hb : b.size ≤ 9223372036854775807) (pa : Option Addr) (L pc : Nat) (n : Int) (hn1 : -9223372036854775808 ≤ n) (hn2 : n ≤ 9223372036854775807) (dn : Bool) (ka : Option Addr) (M kc : Nat) :
    Calls Try.prog 12 #[P, Q, .agg #[.int .u8 1, .string a, .string b, .slice pa L pc, .int .i64 n, .bool dn, .slice ka M kc]] w fun r w' => r = .returned (.bool true) ∧ St w' B P Q (N + 1) ∧ BK B w w' := by
  have b0 := (Below.refl w.heap.size w).alloc (Nat.le_refl _) (.cells #[.int .u8 1, .string a, .string b, .slice pa L pc, .int .i64 n, .bool dn, .slice ka M kc] 36)
  have V0 := va_new w [.int .u8 1, .string a, .string b, .slice pa L pc, .int .i64 n, .bool dn, .slice ka M kc] 36
  have c0 := V0.cell 0 (v := .int .u8 1) rfl
  have HV0 : Hid (VA (w.alloc (.cells #[.int .u8 1, .string a, .string b, .slice pa L pc, .int .i64 n, .bool dn, .slice ka M kc] 36)) w.heap.size [.int .u8 1, .string a, .string b, .slice pa L pc, .int .i64 n, .bool dn, .slice ka M kc] 36) := V0
  have HS0 : Hid (St (w.alloc (.cells #[.int .u8 1, .string a, .string b, .slice pa L pc, .int .i64 n, .bool dn, .slice ka M kc] 36)) B P Q N) := h.step b0
  have HB0 : Hid (BK B w (w.alloc (.cells #[.int .u8 1, .string a, .string b, .slice pa L pc, .int .i64 n, .bool dn, .slice ka M kc] 36))) := BK.b b0 h.lt
  have HBL : Hid (B ≤ w.heap.size) := h.lt
  clear b0 V0 h
  go_enter Try.func12, Try.ntmps12
  go_upto_region 13 with fail
  clear c0
  refine wp_region_noPanic ?_
  refine wp_region_held_drew (S := fun V => VA V w.heap.size [.int .u8 1, .string a, .string b, .slice pa L pc, .int .i64 n, .bool dn, .slice ka M kc] 36) (by kernel_rfl) (VA.drew HV0.out) ?_
  intro hHeld
  have bd := (Below.refl (w.alloc (.cells #[.int .u8 1, .string a, .string b, .slice pa L pc, .int .i64 n, .bool dn, .slice ka M kc] 36)).heap.size (w.alloc (.cells #[.int .u8 1, .string a, .string b, .slice pa L pc, .int .i64 n, .bool dn, .slice ka M kc] 36))).drew
  have HSW : Hid (St (w.alloc (.cells #[.int .u8 1, .string a, .string b, .slice pa L pc, .int .i64 n, .bool dn, .slice ka M kc] 36)).drew B P Q N) := HS0.out.step bd
  have HBW : Hid (BK B w (w.alloc (.cells #[.int .u8 1, .string a, .string b, .slice pa L pc, .int .i64 n, .bool dn, .slice ka M kc] 36)).drew) := HB0.out.trans (BK.b bd (Nat.le_trans HBL.out HB0.out.bel.size))
  clear bd HS0 HB0
  generalize (w.alloc (.cells #[.int .u8 1, .string a, .string b, .slice pa L pc, .int .i64 n, .bool dn, .slice ka M kc] 36)).drew = W0 at *
  refine takeD 0 56 (P) (by exact rfl) rfl (by kernel_rfl) (by kernel_rfl) (by kernel_rfl) (fun _ _ _ h => h) (Or.inl ⟨by rfl, ?_⟩) (by assumption) ?_
  · intro wq hS
    go_simp
  try simp only [Act.put, List.setIfInBounds_toArray, List.set_cons_zero, List.set_cons_succ]
  refine takeD 1 57 (.pointer (some ⟨w.heap.size, 1, none⟩)) (by exact rfl) rfl (by kernel_rfl) (by kernel_rfl) (by kernel_rfl) (fun _ _ _ h => h) (Or.inl ⟨by rfl, ?_⟩) (by assumption) ?_
  · intro wq hS
    go_simp
  try simp only [Act.put, List.setIfInBounds_toArray, List.set_cons_zero, List.set_cons_succ]
  refine takeD 2 58 (.string a) (by exact rfl) rfl (by kernel_rfl) (by kernel_rfl) (by kernel_rfl) (fun _ _ _ h => h) (Or.inl ⟨by rfl, ?_⟩) (by assumption) ?_
  · intro wq hS
    have c := hS.cell 1 (v := .string a) rfl
    go_simp
  try simp only [Act.put, List.setIfInBounds_toArray, List.set_cons_zero, List.set_cons_succ]
  refine takeD 4 60 (Q) (by exact rfl) rfl (by kernel_rfl) (by kernel_rfl) (by kernel_rfl) (fun _ _ _ h => h) (Or.inl ⟨by rfl, ?_⟩) (by assumption) ?_
  · intro wq hS
    go_simp
  try simp only [Act.put, List.setIfInBounds_toArray, List.set_cons_zero, List.set_cons_succ]
  refine takeD 5 61 (.pointer (some ⟨w.heap.size, 1, none⟩)) (by exact rfl) rfl (by kernel_rfl) (by kernel_rfl) (by kernel_rfl) (fun _ _ _ h => h) (Or.inl ⟨by rfl, ?_⟩) (by assumption) ?_
  · intro wq hS
    go_simp
  try simp only [Act.put, List.setIfInBounds_toArray, List.set_cons_zero, List.set_cons_succ]
  refine takeD 6 62 (.string a) (by exact rfl) rfl (by kernel_rfl) (by kernel_rfl) (by kernel_rfl) (fun _ _ _ h => h) (Or.inl ⟨by rfl, ?_⟩) (by assumption) ?_
  · intro wq hS
    have c := hS.cell 1 (v := .string a) rfl
    go_simp
  try simp only [Act.put, List.setIfInBounds_toArray, List.set_cons_zero, List.set_cons_succ]
  refine wpAnyH_ready (rs := [3]) (by kernel_rfl) (by simp) ?_
  refine AllReadyH.cons (by exact rfl) (fun K hK => ?_) AllReadyH.nil
  go_simp
  refine (bSync W0 B N P Q HSW.out hN a ha).mono ?_
  rintro r W1 ⟨c, rfl, k1, nx⟩
  go_wp2_with fail
  refine hK.out _ _ (k1.op _ _ hHeld) (fun hHeld1 => ?_)
  clear hK K
  try simp only [Act.put, List.setIfInBounds_toArray, List.set_cons_zero, List.set_cons_succ]
  refine wpAnyH_ready (rs := [7]) (by kernel_rfl) (by simp) ?_
  refine AllReadyH.cons (by exact rfl) (fun K hK => ?_) AllReadyH.nil
  go_simp
  refine (nx W1 (Below.refl _ _)).mono ?_
  rintro r W2 ⟨rfl, s2, k2⟩
  go_wp2_with fail
  refine hK.out _ _ (k2.op _ _ hHeld1) (fun hHeld2 => ?_)
  clear hK K
  try simp only [Act.put, List.setIfInBounds_toArray, List.set_cons_zero, List.set_cons_succ]
  refine takeD 8 64 (.bool true) (by exact rfl) rfl (by kernel_rfl) (by kernel_rfl) (by kernel_rfl) (fun _ _ _ h => h) (Or.inl ⟨by rfl, ?_⟩) (by assumption) ?_
  · intro wq hS
    go_simp
  try simp only [Act.put, List.setIfInBounds_toArray, List.set_cons_zero, List.set_cons_succ]
  refine takeD 9 6 (.bool true) (by exact rfl) rfl (by kernel_rfl) (by kernel_rfl) (by kernel_rfl) (fun _ _ _ h => h) (Or.inl ⟨by rfl, ?_⟩) (by assumption) ?_
  · intro wq hS
    go_simp
  try simp only [Act.put, List.setIfInBounds_toArray, List.set_cons_zero, List.set_cons_succ]
  have HFIN : Hid (St W2 B P Q (N + 1) ∧ BK B w W2) := ⟨s2, (HBW.out.trans k1).trans k2⟩
  clear s2 k1 k2 nx hHeld hHeld1 hHeld2
  refine wpAnyH_done (by kernel_rfl) ?_ _
  refine NoPanic.normal ?_
  go_wp2_with fail
  go_ret
  exact ⟨rfl, HFIN.out.1, HFIN.out.2⟩
set_option maxRecDepth 100000 in
set_option maxHeartbeats 2000000 in
theorem call_2 (w : World) (B N : Nat) (P Q : Value) (h : St w B P Q N) (hN : N ≤ 1000000) (a b : ByteArray) (ha : a.size ≤ 9223372036854775807) (hb : b.size ≤ 9223372036854775807) (pa : Option Addr) (L pc : Nat) (n : Int) (hn1 : -9223372036854775808 ≤ n) (hn2 : n ≤ 9223372036854775807) (dn : Bool) (ka : Option Addr) (M kc : Nat) :
    Calls Try.prog 12 #[P, Q, .agg #[.int .u8 2, .string a, .string b, .slice pa L pc, .int .i64 n, .bool dn, .slice ka M kc]] w fun r w' => r = .returned (.bool true) ∧ St w' B P Q (N + 1) ∧ BK B w w' := by
  have b0 := (Below.refl w.heap.size w).alloc (Nat.le_refl _) (.cells #[.int .u8 2, .string a, .string b, .slice pa L pc, .int .i64 n, .bool dn, .slice ka M kc] 36)
  have V0 := va_new w [.int .u8 2, .string a, .string b, .slice pa L pc, .int .i64 n, .bool dn, .slice ka M kc] 36
  have c0 := V0.cell 0 (v := .int .u8 2) rfl
  have HV0 : Hid (VA (w.alloc (.cells #[.int .u8 2, .string a, .string b, .slice pa L pc, .int .i64 n, .bool dn, .slice ka M kc] 36)) w.heap.size [.int .u8 2, .string a, .string b, .slice pa L pc, .int .i64 n, .bool dn, .slice ka M kc] 36) := V0
  have HS0 : Hid (St (w.alloc (.cells #[.int .u8 2, .string a, .string b, .slice pa L pc, .int .i64 n, .bool dn, .slice ka M kc] 36)) B P Q N) := h.step b0
  have HB0 : Hid (BK B w (w.alloc (.cells #[.int .u8 2, .string a, .string b, .slice pa L pc, .int .i64 n, .bool dn, .slice ka M kc] 36))) := BK.b b0 h.lt
  have HBL : Hid (B ≤ w.heap.size) := h.lt
  clear b0 V0 h
  go_enter Try.func12, Try.ntmps12
  go_upto_region 15 with fail
  clear c0
  refine wp_region_noPanic ?_
  refine wp_region_held_drew (S := fun V => VA V w.heap.size [.int .u8 2, .string a, .string b, .slice pa L pc, .int .i64 n, .bool dn, .slice ka M kc] 36) (by kernel_rfl) (VA.drew HV0.out) ?_
  intro hHeld
  have bd := (Below.refl (w.alloc (.cells #[.int .u8 2, .string a, .string b, .slice pa L pc, .int .i64 n, .bool dn, .slice ka M kc] 36)).heap.size (w.alloc (.cells #[.int .u8 2, .string a, .string b, .slice pa L pc, .int .i64 n, .bool dn, .slice ka M kc] 36))).drew
  have HSW : Hid (St (w.alloc (.cells #[.int .u8 2, .string a, .string b, .slice pa L pc, .int .i64 n, .bool dn, .slice ka M kc] 36)).drew B P Q N) := HS0.out.step bd
  have HBW : Hid (BK B w (w.alloc (.cells #[.int .u8 2, .string a, .string b, .slice pa L pc, .int .i64 n, .bool dn, .slice ka M kc] 36)).drew) := HB0.out.trans (BK.b bd (Nat.le_trans HBL.out HB0.out.bel.size))
  clear bd HS0 HB0
  generalize (w.alloc (.cells #[.int .u8 2, .string a, .string b, .slice pa L pc, .int .i64 n, .bool dn, .slice ka M kc] 36)).drew = W0 at *
  refine takeD 0 67 (P) (by exact rfl) rfl (by kernel_rfl) (by kernel_rfl) (by kernel_rfl) (fun _ _ _ h => h) (Or.inl ⟨by rfl, ?_⟩) (by assumption) ?_
  · intro wq hS
    go_simp
  try simp only [Act.put, List.setIfInBounds_toArray, List.set_cons_zero, List.set_cons_succ]
  refine takeD 1 68 (.pointer (some ⟨w.heap.size, 1, none⟩)) (by exact rfl) rfl (by kernel_rfl) (by kernel_rfl) (by kernel_rfl) (fun _ _ _ h => h) (Or.inl ⟨by rfl, ?_⟩) (by assumption) ?_
  · intro wq hS
    go_simp
  try simp only [Act.put, List.setIfInBounds_toArray, List.set_cons_zero, List.set_cons_succ]
  refine takeD 2 69 (.string a) (by exact rfl) rfl (by kernel_rfl) (by kernel_rfl) (by kernel_rfl) (fun _ _ _ h => h) (Or.inl ⟨by rfl, ?_⟩) (by assumption) ?_
  · intro wq hS
    have c := hS.cell 1 (v := .string a) rfl
    go_simp
  try simp only [Act.put, List.setIfInBounds_toArray, List.set_cons_zero, List.set_cons_succ]
  refine takeD 3 70 (.pointer (some ⟨w.heap.size, 4, none⟩)) (by exact rfl) rfl (by kernel_rfl) (by kernel_rfl) (by kernel_rfl) (fun _ _ _ h => h) (Or.inl ⟨by rfl, ?_⟩) (by assumption) ?_
  · intro wq hS
    go_simp
  try simp only [Act.put, List.setIfInBounds_toArray, List.set_cons_zero, List.set_cons_succ]
  refine takeD 4 71 (.int .i64 n) (by exact rfl) rfl (by kernel_rfl) (by kernel_rfl) (by kernel_rfl) (fun _ _ _ h => h) (Or.inl ⟨by rfl, ?_⟩) (by assumption) ?_
  · intro wq hS
    have c := hS.cell 4 (v := .int .i64 n) rfl
    go_simp
  try simp only [Act.put, List.setIfInBounds_toArray, List.set_cons_zero, List.set_cons_succ]
  refine takeD 6 73 (Q) (by exact rfl) rfl (by kernel_rfl) (by kernel_rfl) (by kernel_rfl) (fun _ _ _ h => h) (Or.inl ⟨by rfl, ?_⟩) (by assumption) ?_
  · intro wq hS
    go_simp
  try simp only [Act.put, List.setIfInBounds_toArray, List.set_cons_zero, List.set_cons_succ]
  refine takeD 7 74 (.pointer (some ⟨w.heap.size, 1, none⟩)) (by exact rfl) rfl (by kernel_rfl) (by kernel_rfl) (by kernel_rfl) (fun _ _ _ h => h) (Or.inl ⟨by rfl, ?_⟩) (by assumption) ?_
  · intro wq hS
    go_simp
  try simp only [Act.put, List.setIfInBounds_toArray, List.set_cons_zero, List.set_cons_succ]
  refine takeD 8 75 (.string a) (by exact rfl) rfl (by kernel_rfl) (by kernel_rfl) (by kernel_rfl) (fun _ _ _ h => h) (Or.inl ⟨by rfl, ?_⟩) (by assumption) ?_
  · intro wq hS
    have c := hS.cell 1 (v := .string a) rfl
    go_simp
  try simp only [Act.put, List.setIfInBounds_toArray, List.set_cons_zero, List.set_cons_succ]
  refine takeD 9 76 (.pointer (some ⟨w.heap.size, 4, none⟩)) (by exact rfl) rfl (by kernel_rfl) (by kernel_rfl) (by kernel_rfl) (fun _ _ _ h => h) (Or.inl ⟨by rfl, ?_⟩) (by assumption) ?_
  · intro wq hS
    go_simp
  try simp only [Act.put, List.setIfInBounds_toArray, List.set_cons_zero, List.set_cons_succ]
  refine takeD 10 77 (.int .i64 n) (by exact rfl) rfl (by kernel_rfl) (by kernel_rfl) (by kernel_rfl) (fun _ _ _ h => h) (Or.inl ⟨by rfl, ?_⟩) (by assumption) ?_
  · intro wq hS
    have c := hS.cell 4 (v := .int .i64 n) rfl
    go_simp
  try simp only [Act.put, List.setIfInBounds_toArray, List.set_cons_zero, List.set_cons_succ]
  refine wpAnyH_ready (rs := [5]) (by kernel_rfl) (by simp) ?_
  refine AllReadyH.cons (by exact rfl) (fun K hK => ?_) AllReadyH.nil
  go_simp
  refine (bTrunc W0 B N P Q HSW.out hN a ha n hn1 hn2).mono ?_
  rintro r W1 ⟨c, rfl, k1, nx⟩
  go_wp2_with fail
  refine hK.out _ _ (k1.op _ _ hHeld) (fun hHeld1 => ?_)
  clear hK K
  try simp only [Act.put, List.setIfInBounds_toArray, List.set_cons_zero, List.set_cons_succ]
  refine wpAnyH_ready (rs := [11]) (by kernel_rfl) (by simp) ?_
  refine AllReadyH.cons (by exact rfl) (fun K hK => ?_) AllReadyH.nil
  go_simp
  refine (nx W1 (Below.refl _ _)).mono ?_
  rintro r W2 ⟨rfl, s2, k2⟩
  go_wp2_with fail
  refine hK.out _ _ (k2.op _ _ hHeld1) (fun hHeld2 => ?_)
  clear hK K
  try simp only [Act.put, List.setIfInBounds_toArray, List.set_cons_zero, List.set_cons_succ]
  refine takeD 12 79 (.bool true) (by exact rfl) rfl (by kernel_rfl) (by kernel_rfl) (by kernel_rfl) (fun _ _ _ h => h) (Or.inl ⟨by rfl, ?_⟩) (by assumption) ?_
  · intro wq hS
    go_simp
  try simp only [Act.put, List.setIfInBounds_toArray, List.set_cons_zero, List.set_cons_succ]
  refine takeD 13 6 (.bool true) (by exact rfl) rfl (by kernel_rfl) (by kernel_rfl) (by kernel_rfl) (fun _ _ _ h => h) (Or.inl ⟨by rfl, ?_⟩) (by assumption) ?_
  · intro wq hS
    go_simp
  try simp only [Act.put, List.setIfInBounds_toArray, List.set_cons_zero, List.set_cons_succ]
  have HFIN : Hid (St W2 B P Q (N + 1) ∧ BK B w W2) := ⟨s2, (HBW.out.trans k1).trans k2⟩
  clear s2 k1 k2 nx hHeld hHeld1 hHeld2
  refine wpAnyH_done (by kernel_rfl) ?_ _
  refine NoPanic.normal ?_
  go_wp2_with fail
  go_ret
  exact ⟨rfl, HFIN.out.1, HFIN.out.2⟩
set_option maxRecDepth 100000 in
set_option maxHeartbeats 2000000 in
theorem call_3 (w : World) (B N : Nat) (P Q : Value) (h : St w B P Q N) (hN : N ≤ 1000000) (a b : ByteArray) (ha : a.size ≤ 9223372036854775807) (hb : b.size ≤ 9223372036854775807) (pa : Option Addr) (L pc : Nat) (n : Int) (hn1 : -9223372036854775808 ≤ n) (hn2 : n ≤ 9223372036854775807) (dn : Bool) (ka : Option Addr) (M kc : Nat) :
    Calls Try.prog 12 #[P, Q, .agg #[.int .u8 3, .string a, .string b, .slice pa L pc, .int .i64 n, .bool dn, .slice ka M kc]] w fun r w' => r = .returned (.bool true) ∧ St w' B P Q (N + 1) ∧ BK B w w' := by
  have b0 := (Below.refl w.heap.size w).alloc (Nat.le_refl _) (.cells #[.int .u8 3, .string a, .string b, .slice pa L pc, .int .i64 n, .bool dn, .slice ka M kc] 36)
  have V0 := va_new w [.int .u8 3, .string a, .string b, .slice pa L pc, .int .i64 n, .bool dn, .slice ka M kc] 36
  have c0 := V0.cell 0 (v := .int .u8 3) rfl
  have HV0 : Hid (VA (w.alloc (.cells #[.int .u8 3, .string a, .string b, .slice pa L pc, .int .i64 n, .bool dn, .slice ka M kc] 36)) w.heap.size [.int .u8 3, .string a, .string b, .slice pa L pc, .int .i64 n, .bool dn, .slice ka M kc] 36) := V0
  have HS0 : Hid (St (w.alloc (.cells #[.int .u8 3, .string a, .string b, .slice pa L pc, .int .i64 n, .bool dn, .slice ka M kc] 36)) B P Q N) := h.step b0
  have HB0 : Hid (BK B w (w.alloc (.cells #[.int .u8 3, .string a, .string b, .slice pa L pc, .int .i64 n, .bool dn, .slice ka M kc] 36))) := BK.b b0 h.lt
  have HBL : Hid (B ≤ w.heap.size) := h.lt
  clear b0 V0 h
  go_enter Try.func12, Try.ntmps12
  go_upto_region 17 with fail
  clear c0
  refine wp_region_noPanic ?_
  refine wp_region_held_drew (S := fun V => VA V w.heap.size [.int .u8 3, .string a, .string b, .slice pa L pc, .int .i64 n, .bool dn, .slice ka M kc] 36) (by kernel_rfl) (VA.drew HV0.out) ?_
  intro hHeld
  have bd := (Below.refl (w.alloc (.cells #[.int .u8 3, .string a, .string b, .slice pa L pc, .int .i64 n, .bool dn, .slice ka M kc] 36)).heap.size (w.alloc (.cells #[.int .u8 3, .string a, .string b, .slice pa L pc, .int .i64 n, .bool dn, .slice ka M kc] 36))).drew
  have HSW : Hid (St (w.alloc (.cells #[.int .u8 3, .string a, .string b, .slice pa L pc, .int .i64 n, .bool dn, .slice ka M kc] 36)).drew B P Q N) := HS0.out.step bd
  have HBW : Hid (BK B w (w.alloc (.cells #[.int .u8 3, .string a, .string b, .slice pa L pc, .int .i64 n, .bool dn, .slice ka M kc] 36)).drew) := HB0.out.trans (BK.b bd (Nat.le_trans HBL.out HB0.out.bel.size))
  clear bd HS0 HB0
  generalize (w.alloc (.cells #[.int .u8 3, .string a, .string b, .slice pa L pc, .int .i64 n, .bool dn, .slice ka M kc] 36)).drew = W0 at *
  refine takeD 0 82 (P) (by exact rfl) rfl (by kernel_rfl) (by kernel_rfl) (by kernel_rfl) (fun _ _ _ h => h) (Or.inl ⟨by rfl, ?_⟩) (by assumption) ?_
  · intro wq hS
    go_simp
  try simp only [Act.put, List.setIfInBounds_toArray, List.set_cons_zero, List.set_cons_succ]
  refine takeD 1 83 (.pointer (some ⟨w.heap.size, 1, none⟩)) (by exact rfl) rfl (by kernel_rfl) (by kernel_rfl) (by kernel_rfl) (fun _ _ _ h => h) (Or.inl ⟨by rfl, ?_⟩) (by assumption) ?_
  · intro wq hS
    go_simp
  try simp only [Act.put, List.setIfInBounds_toArray, List.set_cons_zero, List.set_cons_succ]
  refine takeD 2 84 (.string a) (by exact rfl) rfl (by kernel_rfl) (by kernel_rfl) (by kernel_rfl) (fun _ _ _ h => h) (Or.inl ⟨by rfl, ?_⟩) (by assumption) ?_
  · intro wq hS
    have c := hS.cell 1 (v := .string a) rfl
    go_simp
  try simp only [Act.put, List.setIfInBounds_toArray, List.set_cons_zero, List.set_cons_succ]
  refine takeD 3 85 (.pointer (some ⟨w.heap.size, 2, none⟩)) (by exact rfl) rfl (by kernel_rfl) (by kernel_rfl) (by kernel_rfl) (fun _ _ _ h => h) (Or.inl ⟨by rfl, ?_⟩) (by assumption) ?_
  · intro wq hS
    go_simp
  try simp only [Act.put, List.setIfInBounds_toArray, List.set_cons_zero, List.set_cons_succ]
  refine takeD 4 86 (.string b) (by exact rfl) rfl (by kernel_rfl) (by kernel_rfl) (by kernel_rfl) (fun _ _ _ h => h) (Or.inl ⟨by rfl, ?_⟩) (by assumption) ?_
  · intro wq hS
    have c := hS.cell 2 (v := .string b) rfl
    go_simp
  try simp only [Act.put, List.setIfInBounds_toArray, List.set_cons_zero, List.set_cons_succ]
  refine takeD 6 88 (Q) (by exact rfl) rfl (by kernel_rfl) (by kernel_rfl) (by kernel_rfl) (fun _ _ _ h => h) (Or.inl ⟨by rfl, ?_⟩) (by assumption) ?_
  · intro wq hS
    go_simp
  try simp only [Act.put, List.setIfInBounds_toArray, List.set_cons_zero, List.set_cons_succ]
  refine takeD 7 89 (.pointer (some ⟨w.heap.size, 1, none⟩)) (by exact rfl) rfl (by kernel_rfl) (by kernel_rfl) (by kernel_rfl) (fun _ _ _ h => h) (Or.inl ⟨by rfl, ?_⟩) (by assumption) ?_
  · intro wq hS
    go_simp
  try simp only [Act.put, List.setIfInBounds_toArray, List.set_cons_zero, List.set_cons_succ]
  refine takeD 8 90 (.string a) (by exact rfl) rfl (by kernel_rfl) (by kernel_rfl) (by kernel_rfl) (fun _ _ _ h => h) (Or.inl ⟨by rfl, ?_⟩) (by assumption) ?_
  · intro wq hS
    have c := hS.cell 1 (v := .string a) rfl
    go_simp
  try simp only [Act.put, List.setIfInBounds_toArray, List.set_cons_zero, List.set_cons_succ]
  refine takeD 9 91 (.pointer (some ⟨w.heap.size, 2, none⟩)) (by exact rfl) rfl (by kernel_rfl) (by kernel_rfl) (by kernel_rfl) (fun _ _ _ h => h) (Or.inl ⟨by rfl, ?_⟩) (by assumption) ?_
  · intro wq hS
    go_simp
  try simp only [Act.put, List.setIfInBounds_toArray, List.set_cons_zero, List.set_cons_succ]
  refine takeD 10 92 (.string b) (by exact rfl) rfl (by kernel_rfl) (by kernel_rfl) (by kernel_rfl) (fun _ _ _ h => h) (Or.inl ⟨by rfl, ?_⟩) (by assumption) ?_
  · intro wq hS
    have c := hS.cell 2 (v := .string b) rfl
    go_simp
  try simp only [Act.put, List.setIfInBounds_toArray, List.set_cons_zero, List.set_cons_succ]
  refine wpAnyH_ready (rs := [5]) (by kernel_rfl) (by simp) ?_
  refine AllReadyH.cons (by exact rfl) (fun K hK => ?_) AllReadyH.nil
  go_simp
  refine (bRen W0 B N P Q HSW.out hN a ha b hb).mono ?_
  rintro r W1 ⟨c, rfl, k1, nx⟩
  go_wp2_with fail
  refine hK.out _ _ (k1.op _ _ hHeld) (fun hHeld1 => ?_)
  clear hK K
  try simp only [Act.put, List.setIfInBounds_toArray, List.set_cons_zero, List.set_cons_succ]
  refine wpAnyH_ready (rs := [11]) (by kernel_rfl) (by simp) ?_
  refine AllReadyH.cons (by exact rfl) (fun K hK => ?_) AllReadyH.nil
  go_simp
  refine (nx W1 (Below.refl _ _)).mono ?_
  rintro r W2 ⟨rfl, s2, k2⟩
  go_wp2_with fail
  refine hK.out _ _ (k2.op _ _ hHeld1) (fun hHeld2 => ?_)
  clear hK K
  try simp only [Act.put, List.setIfInBounds_toArray, List.set_cons_zero, List.set_cons_succ]
  refine takeD 12 94 (.bool true) (by exact rfl) rfl (by kernel_rfl) (by kernel_rfl) (by kernel_rfl) (fun _ _ _ h => h) (Or.inl ⟨by rfl, ?_⟩) (by assumption) ?_
  · intro wq hS
    go_simp
  try simp only [Act.put, List.setIfInBounds_toArray, List.set_cons_zero, List.set_cons_succ]
  refine takeD 13 6 (.bool true) (by exact rfl) rfl (by kernel_rfl) (by kernel_rfl) (by kernel_rfl) (fun _ _ _ h => h) (Or.inl ⟨by rfl, ?_⟩) (by assumption) ?_
  · intro wq hS
    go_simp
  try simp only [Act.put, List.setIfInBounds_toArray, List.set_cons_zero, List.set_cons_succ]
  have HFIN : Hid (St W2 B P Q (N + 1) ∧ BK B w W2) := ⟨s2, (HBW.out.trans k1).trans k2⟩
  clear s2 k1 k2 nx hHeld hHeld1 hHeld2
  refine wpAnyH_done (by kernel_rfl) ?_ _
  refine NoPanic.normal ?_
  go_wp2_with fail
  go_ret
  exact ⟨rfl, HFIN.out.1, HFIN.out.2⟩
set_option maxRecDepth 100000 in
set_option maxHeartbeats 2000000 in
theorem call_4 (w : World) (B N : Nat) (P Q : Value) (h : St w B P Q N) (hN : N ≤ 1000000) (a b : ByteArray) (ha : a.size ≤ 9223372036854775807) (hb : b.size ≤ 9223372036854775807) (pa : Option Addr) (L pc : Nat) (n : Int) (hn1 : -9223372036854775808 ≤ n) (hn2 : n ≤ 9223372036854775807) (dn : Bool) (ka : Option Addr) (M kc : Nat) :
    Calls Try.prog 12 #[P, Q, .agg #[.int .u8 4, .string a, .string b, .slice pa L pc, .int .i64 n, .bool dn, .slice ka M kc]] w fun r w' => r = .returned (.bool true) ∧ St w' B P Q (N + 1) ∧ BK B w w' := by
  have b0 := (Below.refl w.heap.size w).alloc (Nat.le_refl _) (.cells #[.int .u8 4, .string a, .string b, .slice pa L pc, .int .i64 n, .bool dn, .slice ka M kc] 36)
  have V0 := va_new w [.int .u8 4, .string a, .string b, .slice pa L pc, .int .i64 n, .bool dn, .slice ka M kc] 36
  have c0 := V0.cell 0 (v := .int .u8 4) rfl
  have HV0 : Hid (VA (w.alloc (.cells #[.int .u8 4, .string a, .string b, .slice pa L pc, .int .i64 n, .bool dn, .slice ka M kc] 36)) w.heap.size [.int .u8 4, .string a, .string b, .slice pa L pc, .int .i64 n, .bool dn, .slice ka M kc] 36) := V0
  have HS0 : Hid (St (w.alloc (.cells #[.int .u8 4, .string a, .string b, .slice pa L pc, .int .i64 n, .bool dn, .slice ka M kc] 36)) B P Q N) := h.step b0
  have HB0 : Hid (BK B w (w.alloc (.cells #[.int .u8 4, .string a, .string b, .slice pa L pc, .int .i64 n, .bool dn, .slice ka M kc] 36))) := BK.b b0 h.lt
  have HBL : Hid (B ≤ w.heap.size) := h.lt
  clear b0 V0 h
  go_enter Try.func12, Try.ntmps12
  go_upto_region 19 with fail
  clear c0
  refine wp_region_noPanic ?_
  refine wp_region_held_drew (S := fun V => VA V w.heap.size [.int .u8 4, .string a, .string b, .slice pa L pc, .int .i64 n, .bool dn, .slice ka M kc] 36) (by kernel_rfl) (VA.drew HV0.out) ?_
  intro hHeld
  have bd := (Below.refl (w.alloc (.cells #[.int .u8 4, .string a, .string b, .slice pa L pc, .int .i64 n, .bool dn, .slice ka M kc] 36)).heap.size (w.alloc (.cells #[.int .u8 4, .string a, .string b, .slice pa L pc, .int .i64 n, .bool dn, .slice ka M kc] 36))).drew
  have HSW : Hid (St (w.alloc (.cells #[.int .u8 4, .string a, .string b, .slice pa L pc, .int .i64 n, .bool dn, .slice ka M kc] 36)).drew B P Q N) := HS0.out.step bd
  have HBW : Hid (BK B w (w.alloc (.cells #[.int .u8 4, .string a, .string b, .slice pa L pc, .int .i64 n, .bool dn, .slice ka M kc] 36)).drew) := HB0.out.trans (BK.b bd (Nat.le_trans HBL.out HB0.out.bel.size))
  clear bd HS0 HB0
  generalize (w.alloc (.cells #[.int .u8 4, .string a, .string b, .slice pa L pc, .int .i64 n, .bool dn, .slice ka M kc] 36)).drew = W0 at *
  refine takeD 0 97 (P) (by exact rfl) rfl (by kernel_rfl) (by kernel_rfl) (by kernel_rfl) (fun _ _ _ h => h) (Or.inl ⟨by rfl, ?_⟩) (by assumption) ?_
  · intro wq hS
    go_simp
  try simp only [Act.put, List.setIfInBounds_toArray, List.set_cons_zero, List.set_cons_succ]
  refine takeD 1 98 (.pointer (some ⟨w.heap.size, 1, none⟩)) (by exact rfl) rfl (by kernel_rfl) (by kernel_rfl) (by kernel_rfl) (fun _ _ _ h => h) (Or.inl ⟨by rfl, ?_⟩) (by assumption) ?_
  · intro wq hS
    go_simp
  try simp only [Act.put, List.setIfInBounds_toArray, List.set_cons_zero, List.set_cons_succ]
  refine takeD 2 99 (.string a) (by exact rfl) rfl (by kernel_rfl) (by kernel_rfl) (by kernel_rfl) (fun _ _ _ h => h) (Or.inl ⟨by rfl, ?_⟩) (by assumption) ?_
  · intro wq hS
    have c := hS.cell 1 (v := .string a) rfl
    go_simp
  try simp only [Act.put, List.setIfInBounds_toArray, List.set_cons_zero, List.set_cons_succ]
  refine takeD 4 101 (Q) (by exact rfl) rfl (by kernel_rfl) (by kernel_rfl) (by kernel_rfl) (fun _ _ _ h => h) (Or.inl ⟨by rfl, ?_⟩) (by assumption) ?_
  · intro wq hS
    go_simp
  try simp only [Act.put, List.setIfInBounds_toArray, List.set_cons_zero, List.set_cons_succ]
  refine takeD 5 102 (.pointer (some ⟨w.heap.size, 1, none⟩)) (by exact rfl) rfl (by kernel_rfl) (by kernel_rfl) (by kernel_rfl) (fun _ _ _ h => h) (Or.inl ⟨by rfl, ?_⟩) (by assumption) ?_
  · intro wq hS
    go_simp
  try simp only [Act.put, List.setIfInBounds_toArray, List.set_cons_zero, List.set_cons_succ]
  refine takeD 6 103 (.string a) (by exact rfl) rfl (by kernel_rfl) (by kernel_rfl) (by kernel_rfl) (fun _ _ _ h => h) (Or.inl ⟨by rfl, ?_⟩) (by assumption) ?_
  · intro wq hS
    have c := hS.cell 1 (v := .string a) rfl
    go_simp
  try simp only [Act.put, List.setIfInBounds_toArray, List.set_cons_zero, List.set_cons_succ]
  refine wpAnyH_ready (rs := [3]) (by kernel_rfl) (by simp) ?_
  refine AllReadyH.cons (by exact rfl) (fun K hK => ?_) AllReadyH.nil
  go_simp
  refine (bRem W0 B N P Q HSW.out hN a ha).mono ?_
  rintro r W1 ⟨c, rfl, k1, nx⟩
  go_wp2_with fail
  refine hK.out _ _ (k1.op _ _ hHeld) (fun hHeld1 => ?_)
  clear hK K
  try simp only [Act.put, List.setIfInBounds_toArray, List.set_cons_zero, List.set_cons_succ]
  refine wpAnyH_ready (rs := [7]) (by kernel_rfl) (by simp) ?_
  refine AllReadyH.cons (by exact rfl) (fun K hK => ?_) AllReadyH.nil
  go_simp
  refine (nx W1 (Below.refl _ _)).mono ?_
  rintro r W2 ⟨rfl, s2, k2⟩
  go_wp2_with fail
  refine hK.out _ _ (k2.op _ _ hHeld1) (fun hHeld2 => ?_)
  clear hK K
  try simp only [Act.put, List.setIfInBounds_toArray, List.set_cons_zero, List.set_cons_succ]
  refine takeD 8 105 (.bool true) (by exact rfl) rfl (by kernel_rfl) (by kernel_rfl) (by kernel_rfl) (fun _ _ _ h => h) (Or.inl ⟨by rfl, ?_⟩) (by assumption) ?_
  · intro wq hS
    go_simp
  try simp only [Act.put, List.setIfInBounds_toArray, List.set_cons_zero, List.set_cons_succ]
  refine takeD 9 6 (.bool true) (by exact rfl) rfl (by kernel_rfl) (by kernel_rfl) (by kernel_rfl) (fun _ _ _ h => h) (Or.inl ⟨by rfl, ?_⟩) (by assumption) ?_
  · intro wq hS
    go_simp
  try simp only [Act.put, List.setIfInBounds_toArray, List.set_cons_zero, List.set_cons_succ]
  have HFIN : Hid (St W2 B P Q (N + 1) ∧ BK B w W2) := ⟨s2, (HBW.out.trans k1).trans k2⟩
  clear s2 k1 k2 nx hHeld hHeld1 hHeld2
  refine wpAnyH_done (by kernel_rfl) ?_ _
  refine NoPanic.normal ?_
  go_wp2_with fail
  go_ret
  exact ⟨rfl, HFIN.out.1, HFIN.out.2⟩
set_option maxRecDepth 100000 in
set_option maxHeartbeats 2000000 in
theorem call_5 (w : World) (B N : Nat) (P Q : Value) (h : St w B P Q N) (hN : N ≤ 1000000) (a b : ByteArray) (ha : a.size ≤ 9223372036854775807) (hb : b.size ≤ 9223372036854775807) (pa : Option Addr) (L pc : Nat) (n : Int) (hn1 : -9223372036854775808 ≤ n) (hn2 : n ≤ 9223372036854775807) (dn : Bool) (ka : Option Addr) (M kc : Nat) :
    Calls Try.prog 12 #[P, Q, .agg #[.int .u8 5, .string a, .string b, .slice pa L pc, .int .i64 n, .bool dn, .slice ka M kc]] w fun r w' => r = .returned (.bool true) ∧ St w' B P Q (N + 1) ∧ BK B w w' := by
  have b0 := (Below.refl w.heap.size w).alloc (Nat.le_refl _) (.cells #[.int .u8 5, .string a, .string b, .slice pa L pc, .int .i64 n, .bool dn, .slice ka M kc] 36)
  have V0 := va_new w [.int .u8 5, .string a, .string b, .slice pa L pc, .int .i64 n, .bool dn, .slice ka M kc] 36
  have c0 := V0.cell 0 (v := .int .u8 5) rfl
  have HV0 : Hid (VA (w.alloc (.cells #[.int .u8 5, .string a, .string b, .slice pa L pc, .int .i64 n, .bool dn, .slice ka M kc] 36)) w.heap.size [.int .u8 5, .string a, .string b, .slice pa L pc, .int .i64 n, .bool dn, .slice ka M kc] 36) := V0
  have HS0 : Hid (St (w.alloc (.cells #[.int .u8 5, .string a, .string b, .slice pa L pc, .int .i64 n, .bool dn, .slice ka M kc] 36)) B P Q N) := h.step b0
  have HB0 : Hid (BK B w (w.alloc (.cells #[.int .u8 5, .string a, .string b, .slice pa L pc, .int .i64 n, .bool dn, .slice ka M kc] 36))) := BK.b b0 h.lt
  have HBL : Hid (B ≤ w.heap.size) := h.lt
  clear b0 V0 h
  go_enter Try.func12, Try.ntmps12
  go_upto_region 21 with fail
  clear c0
  refine wp_region_noPanic ?_
  refine wp_region_held_drew (S := fun V => VA V w.heap.size [.int .u8 5, .string a, .string b, .slice pa L pc, .int .i64 n, .bool dn, .slice ka M kc] 36) (by kernel_rfl) (VA.drew HV0.out) ?_
  intro hHeld
  have bd := (Below.refl (w.alloc (.cells #[.int .u8 5, .string a, .string b, .slice pa L pc, .int .i64 n, .bool dn, .slice ka M kc] 36)).heap.size (w.alloc (.cells #[.int .u8 5, .string a, .string b, .slice pa L pc, .int .i64 n, .bool dn, .slice ka M kc] 36))).drew
  have HSW : Hid (St (w.alloc (.cells #[.int .u8 5, .string a, .string b, .slice pa L pc, .int .i64 n, .bool dn, .slice ka M kc] 36)).drew B P Q N) := HS0.out.step bd
  have HBW : Hid (BK B w (w.alloc (.cells #[.int .u8 5, .string a, .string b, .slice pa L pc, .int .i64 n, .bool dn, .slice ka M kc] 36)).drew) := HB0.out.trans (BK.b bd (Nat.le_trans HBL.out HB0.out.bel.size))
  clear bd HS0 HB0
  generalize (w.alloc (.cells #[.int .u8 5, .string a, .string b, .slice pa L pc, .int .i64 n, .bool dn, .slice ka M kc] 36)).drew = W0 at *
  refine takeD 0 108 (P) (by exact rfl) rfl (by kernel_rfl) (by kernel_rfl) (by kernel_rfl) (fun _ _ _ h => h) (Or.inl ⟨by rfl, ?_⟩) (by assumption) ?_
  · intro wq hS
    go_simp
  try simp only [Act.put, List.setIfInBounds_toArray, List.set_cons_zero, List.set_cons_succ]
  refine takeD 1 109 (.pointer (some ⟨w.heap.size, 4, none⟩)) (by exact rfl) rfl (by kernel_rfl) (by kernel_rfl) (by kernel_rfl) (fun _ _ _ h => h) (Or.inl ⟨by rfl, ?_⟩) (by assumption) ?_
  · intro wq hS
    go_simp
  try simp only [Act.put, List.setIfInBounds_toArray, List.set_cons_zero, List.set_cons_succ]
  refine takeD 2 110 (.int .i64 n) (by exact rfl) rfl (by kernel_rfl) (by kernel_rfl) (by kernel_rfl) (fun _ _ _ h => h) (Or.inl ⟨by rfl, ?_⟩) (by assumption) ?_
  · intro wq hS
    have c := hS.cell 4 (v := .int .i64 n) rfl
    go_simp
  try simp only [Act.put, List.setIfInBounds_toArray, List.set_cons_zero, List.set_cons_succ]
  refine takeD 4 112 (Q) (by exact rfl) rfl (by kernel_rfl) (by kernel_rfl) (by kernel_rfl) (fun _ _ _ h => h) (Or.inl ⟨by rfl, ?_⟩) (by assumption) ?_
  · intro wq hS
    go_simp
  try simp only [Act.put, List.setIfInBounds_toArray, List.set_cons_zero, List.set_cons_succ]
  refine takeD 5 113 (.pointer (some ⟨w.heap.size, 4, none⟩)) (by exact rfl) rfl (by kernel_rfl) (by kernel_rfl) (by kernel_rfl) (fun _ _ _ h => h) (Or.inl ⟨by rfl, ?_⟩) (by assumption) ?_
  · intro wq hS
    go_simp
  try simp only [Act.put, List.setIfInBounds_toArray, List.set_cons_zero, List.set_cons_succ]
  refine takeD 6 114 (.int .i64 n) (by exact rfl) rfl (by kernel_rfl) (by kernel_rfl) (by kernel_rfl) (fun _ _ _ h => h) (Or.inl ⟨by rfl, ?_⟩) (by assumption) ?_
  · intro wq hS
    have c := hS.cell 4 (v := .int .i64 n) rfl
    go_simp
  try simp only [Act.put, List.setIfInBounds_toArray, List.set_cons_zero, List.set_cons_succ]
  refine wpAnyH_ready (rs := [3]) (by kernel_rfl) (by simp) ?_
  refine AllReadyH.cons (by exact rfl) (fun K hK => ?_) AllReadyH.nil
  go_simp
  refine (bArm W0 B N P Q HSW.out hN n hn1 hn2).mono ?_
  rintro r W1 ⟨c, rfl, k1, nx⟩
  go_wp2_with fail
  refine hK.out _ _ (k1.op _ _ hHeld) (fun hHeld1 => ?_)
  clear hK K
  try simp only [Act.put, List.setIfInBounds_toArray, List.set_cons_zero, List.set_cons_succ]
  refine wpAnyH_ready (rs := [7]) (by kernel_rfl) (by simp) ?_
  refine AllReadyH.cons (by exact rfl) (fun K hK => ?_) AllReadyH.nil
  go_simp
  refine (nx W1 (Below.refl _ _)).mono ?_
  rintro r W2 ⟨rfl, s2, k2⟩
  go_wp2_with fail
  refine hK.out _ _ (k2.op _ _ hHeld1) (fun hHeld2 => ?_)
  clear hK K
  try simp only [Act.put, List.setIfInBounds_toArray, List.set_cons_zero, List.set_cons_succ]
  refine takeD 8 116 (.bool true) (by exact rfl) rfl (by kernel_rfl) (by kernel_rfl) (by kernel_rfl) (fun _ _ _ h => h) (Or.inl ⟨by rfl, ?_⟩) (by assumption) ?_
  · intro wq hS
    go_simp
  try simp only [Act.put, List.setIfInBounds_toArray, List.set_cons_zero, List.set_cons_succ]
  refine takeD 9 6 (.bool true) (by exact rfl) rfl (by kernel_rfl) (by kernel_rfl) (by kernel_rfl) (fun _ _ _ h => h) (Or.inl ⟨by rfl, ?_⟩) (by assumption) ?_
  · intro wq hS
    go_simp
  try simp only [Act.put, List.setIfInBounds_toArray, List.set_cons_zero, List.set_cons_succ]
  have HFIN : Hid (St W2 B P Q (N + 1) ∧ BK B w W2) := ⟨s2, (HBW.out.trans k1).trans k2⟩
  clear s2 k1 k2 nx hHeld hHeld1 hHeld2
  refine wpAnyH_done (by kernel_rfl) ?_ _
  refine NoPanic.normal ?_
  go_wp2_with fail
  go_ret
  exact ⟨rfl, HFIN.out.1, HFIN.out.2⟩
end Go.Proofs.Ytakgkpiicigihaa
/- disk LXIII: the law's call: Append. -/
namespace Go.Proofs.Ytakgkpiicigihaa
open Go.RowKit Go.Maps Go.Sort Go.Shelf pk
set_option linter.unusedVariables false
set_option linter.unusedSimpArgs false

theorem Kee.updn {w0 w w' : World} {g : Nat} (h : Kee w0 w) (u : Upd g w w') (hg : w0.heap.size ≤ g) : Kee w0 w' :=
  ⟨u.os.trans h.os, u.tape.trans h.tape, u.output.trans h.output, by rw [u.size]; exact h.size, fun i cs T z e hT => (u.block i (fun er => by have := hlt_of e; omega)).trans (h.blk i cs T z e hT)⟩
theorem K8.updf {w0 w w' : World} {g n : Nat} (h : K8 w0 w) (u : Upd g w w') (hf : Fl w g n) : K8 w0 w' :=
  ⟨u.os.trans h.os, u.tape.trans h.tape, u.output.trans h.output, by rw [u.size]; exact h.size, fun i o e hn => (u.block i (fun er => by
    obtain ⟨cs, h1, _⟩ := hf
    have h2 := h.blk i o e hn
    rw [er, h1] at h2
    exact hn cs (0, 0) (Option.some.inj h2).symm)).trans (h.blk i o e hn)⟩
set_option maxRecDepth 100000 in
set_option maxHeartbeats 2000000 in
theorem call_0 (w : World) (B N : Nat) (P Q : Value) (h : St w B P Q N) (hN : N ≤ 1000000) (a b : ByteArray) (ha : a.size ≤ 9223372036854775807) (hb : b.size ≤ 9223372036854775807) (pa : Option Addr) (L pc : Nat) (n : Int) (hn1 : -9223372036854775808 ≤ n) (hn2 : n ≤ 9223372036854775807) (dn : Bool) (ka : Option Addr) (M kc : Nat) (bs : List Nat) (hL : L = bs.length) (hLb : L ≤ 2000) (hp : ∀ w', Below B w w' → Bs w' (.slice pa L pc) bs) :
    Calls Try.prog 12 #[P, Q, .agg #[.int .u8 0, .string a, .string b, .slice pa L pc, .int .i64 n, .bool dn, .slice ka M kc]] w fun r w' => r = .returned (.bool true) ∧ St w' B P Q (N + 1) ∧ BK B w w' := by
  have b0 := (Below.refl w.heap.size w).alloc (Nat.le_refl _) (.cells #[.int .u8 0, .string a, .string b, .slice pa L pc, .int .i64 n, .bool dn, .slice ka M kc] 36)
  have V0 := va_new w [.int .u8 0, .string a, .string b, .slice pa L pc, .int .i64 n, .bool dn, .slice ka M kc] 36
  have c0 := V0.cell 0 (v := .int .u8 0) rfl
  have HV0 : Hid (VA (w.alloc (.cells #[.int .u8 0, .string a, .string b, .slice pa L pc, .int .i64 n, .bool dn, .slice ka M kc] 36)) w.heap.size [.int .u8 0, .string a, .string b, .slice pa L pc, .int .i64 n, .bool dn, .slice ka M kc] 36) := V0
  have HS0 : Hid (St (w.alloc (.cells #[.int .u8 0, .string a, .string b, .slice pa L pc, .int .i64 n, .bool dn, .slice ka M kc] 36)) B P Q N) := h.step b0
  have HB0 : Hid (BK B w (w.alloc (.cells #[.int .u8 0, .string a, .string b, .slice pa L pc, .int .i64 n, .bool dn, .slice ka M kc] 36))) := BK.b b0 h.lt
  have HBL : Hid (B ≤ w.heap.size) := h.lt
  clear b0 V0 h
  have c3 := HV0.out.cell 3 (v := .slice pa L pc) rfl
  have HLL : Hid (L = bs.length) := hL
  have HP : Hid (∀ w', Below B w w' → Bs w' (.slice pa L pc) bs) := hp
  clear hp hL
  go_enter Try.func12, Try.ntmps12
  go_upto_region 3 with fail
  generalize hw0 : w.alloc (.cells #[.int .u8 0, .string a, .string b, .slice pa L pc, .int .i64 n, .bool dn, .slice ka M kc] 36) = w0 at *
  have hbx : w.heap.size < w0.heap.size := HV0.out.lt
  clear hw0 c0
  go_wp2_with fail
  refine (spare_ok (.slice pa L pc) bs w0 (HP.out w0 HB0.out.bel) (by have := HLL.out; omega)).mono ?_
  rintro e w1 ⟨⟨g, cap, rfl, o1⟩, b1⟩
  have hgw : w0.heap.size ≤ g := by
    rcases o1.head with ⟨e, _⟩ | ⟨g', c', e, h1, _⟩
    · cases e
    · injection e with e _ _
      injection e with e
      injection e with e _ _
      rw [e]; exact h1
  rw [← HLL.out] at o1 ⊢
  have HO1 : Hid (OwnB w1 w0.heap.size (.slice (some ⟨g, 0, none⟩) (L + 3) cap) (bs ++ mark)) := o1
  have HB1 : Hid (Below w0.heap.size w0 w1) := b1
  have HV1 : Hid (VA w1 w.heap.size [.int .u8 0, .string a, .string b, .slice pa L pc, .int .i64 n, .bool dn, .slice ka M kc] 36) := HV0.out.step b1
  have HPB : Hid (Bs w1 (.slice (some ⟨g, 0, none⟩) L cap) bs) := by
    have := o1.bs.cut L (by rw [List.length_append]; have := HLL.out; omega)
    rw [HLL.out, List.take_left, ← HLL.out] at this
    exact this
  have HSF : Hid (Safe w1 (.slice (some ⟨g, 0, none⟩) L cap)) := fun b off n c e => by
    cases e
    exact o1.safe g 0 _ _ rfl
  have a1 := HV1.out.cell 1 (v := .string a) rfl
  have hcap : L + 3 ≤ cap ∧ cap ≤ 9223372036854775807 := by
    obtain ⟨_, _, _, e, h1, h2, _⟩ := o1.bs
    injection e with _ _ e
    subst e
    rw [List.length_append] at h1
    have h3 := HLL.out
    have h4 : mark.length = 3 := rfl
    omega
  clear o1 b1 c3
  go_wp2_with fail
  refine (bApp w0 w1 B N P Q HS0.out HB1.out hN a ha _ bs HPB.out HSF.out (by have := HLL.out; omega)).mono ?_
  rintro e w2 ⟨c, rfl, k2, ke2, nx⟩
  have HNX := (show Hid _ from nx)
  have HK2 : Hid (BK B w1 w2) := k2
  have HKE2 : Hid (Kee w1 w2) := ke2
  have HV2 : Hid (VA w2 w.heap.size [.int .u8 0, .string a, .string b, .slice pa L pc, .int .i64 n, .bool dn, .slice ka M kc] 36) := k2.op _ _ HV1.out
  have HO2 : Hid (OwnB w2 w0.heap.size (.slice (some ⟨g, 0, none⟩) (L + 3) cap) (bs ++ mark)) := HO1.out.kee ke2
  have HBK2 : Hid (BK B w w2) := (HB0.out.trans (BK.b HB1.out (Nat.le_trans HBL.out HB0.out.bel.size))).trans k2
  have HBW2 : Hid (Below B w w2) := HBK2.out.bel
  have a2 := HV2.out.cell 3 (v := .slice pa L pc) rfl
  clear nx k2 ke2 a1 HPB HSF
  go_wp2_with fail
  refine (kept_ok _ _ bs w2 HO2.out.bs (HP.out w2 HBW2.out)).mono ?_
  rintro e w3 ⟨rfl, b3⟩
  have HB3 : Hid (Below w2.heap.size w2 w3) := b3
  have HFL3 : Hid (Fl w3 g (L + 3)) := (HO2.out.stp b3).fl
  have HKE3 : Hid (Kee w0 w3) := ((Kee.bel HB1.out).trans HKE2.out).trans (Kee.bel b3)
  have HK83 : Hid (K8 w2 w3) := K8.bel b3
  have HBW3 : Hid (Below B w w3) := HBW2.out.trans (b3.mono (Nat.le_trans HBL.out HBW2.out.size))
  have HV3 : Hid (VA w3 w.heap.size [.int .u8 0, .string a, .string b, .slice pa L pc, .int .i64 n, .bool dn, .slice ka M kc] 36) := HV2.out.step b3
  clear b3 a2
  go_wp2_with fail
  go_loopw [33] (fun i wr => ∃ k : Nat, k ≤ L + 3 ∧ i = .int .i64 (k : Int) ∧ Hid (Fl wr g (L + 3)) ∧ Hid (Kee w0 wr) ∧ Hid (K8 w2 wr) ∧ Hid (Below B w wr) ∧ Hid (VA wr w.heap.size [.int .u8 0, .string a, .string b, .slice pa L pc, .int .i64 n, .bool dn, .slice ka M kc] 36)) (fun i _ => L + 3 - (intOf i).toNat)
  case atStart => exact ⟨0, Nat.zero_le _, rfl, HFL3.out, HKE3.out, HK83.out, HBW3.out, HV3.out⟩
  case round =>
    obtain ⟨k, hk, rfl, HFL, HKE, HK8, HBW, HV⟩ := hrel
    clear HFL3 HKE3 HK83 HBW3 HV3
    by_cases hlt : k < L + 3
    · have dk : (k : Int) < (L : Int) + 3 := by omega
      obtain ⟨z, hz⟩ := HFL.out.cell k hlt
      have f := HFL.out.free k
      go_wp2_with fail
      go_roundw
      case rel => exact ⟨k + 1, by omega, by simp, HFL.out.set k _, HKE.out.updn (upd_set wr g k _) hgw, HK8.out.updf (upd_set wr g k _) HFL.out, (upd_set wr g k _).bel HBW.out (by have := HBL.out; omega), HV.out.set_other (by omega) k _⟩
      case measure => simp [intOf]; omega
    · obtain rfl : k = L + 3 := by omega
      have dk : (L : Int) + 3 ≤ ((L + 3 : Nat) : Int) := by omega
      have v1 := HV.out.cell 1 (v := .string a) rfl
      have v3 := HV.out.cell 3 (v := .slice pa L pc) rfl
      go_wp2_with fail
      refine (HNX.out wr HKE.out HK8.out _ (HP.out wr HBW.out)).mono ?_
      rintro e w5 ⟨rfl, s5, k5⟩
      have HF : Hid (St w5 B P Q (N + 1) ∧ BK B w w5) := ⟨s5, HBW.out.trans k5.bel, fun p cs v => k5.op p cs ((HBK2.out.op p cs v).k8 HK8.out (by decide))⟩
      clear s5 k5
      go_wp2_with fail
      go_ret
      exact ⟨rfl, HF.out.1, HF.out.2⟩
end Go.Proofs.Ytakgkpiicigihaa
/- disk LXII: the law's call: Restart, and what is none. -/
namespace Go.Proofs.Ytakgkpiicigihaa
open Go.RowKit Go.Maps Go.Sort Go.Shelf pk
set_option linter.unusedVariables false
set_option linter.unusedSimpArgs false

theorem infoFt2 : (Try.prog.info? 34).map (·.size) = some 2 := by kernel_rfl
theorem fateAt {V : World} {B0 : Nat} {k : Int} {a b : ByteArray} {pa ka : Option Addr} {L pc M kc : Nat} {n : Int} {dn : Bool} (hS : VA V B0 [.int .u8 k, .string a, .string b, .slice pa L pc, .int .i64 n, .bool dn, .slice ka M kc] 36) (j : Nat) (u : Value) (hj : [Value.bool dn, .slice ka M kc][j]? = some u) : V.cell? ⟨B0, 5 + j, none⟩ = some u := by
  rcases j with _ | _ | j
  · exact hS.cell 5 (by simpa using hj)
  · exact hS.cell 6 (by simpa using hj)
  · simp at hj
set_option maxRecDepth 100000 in
set_option maxHeartbeats 2000000 in
theorem call_6 (w : World) (B N : Nat) (P Q : Value) (h : St w B P Q N) (hN : N ≤ 1000000) (a b : ByteArray) (ha : a.size ≤ 9223372036854775807) (hb : b.size ≤ 9223372036854775807) (pa : Option Addr) (L pc : Nat) (n : Int) (hn1 : -9223372036854775808 ≤ n) (hn2 : n ≤ 9223372036854775807) (dn : Bool) (ka : Option Addr) (M kc : Nat) (ks : List Bool) (hM : M = ks.length) (hMl : M ≤ 140737488351232) (hno : ka = none → kc = 0) (hkk : ∀ w', Below B w w' → Bl w' (.slice ka M kc) ks) (hkb : 0 < M → ∀ b off n c, Value.slice ka M kc = .slice (some ⟨b, off, none⟩) n c → b < B) :
    Calls Try.prog 12 #[P, Q, .agg #[.int .u8 6, .string a, .string b, .slice pa L pc, .int .i64 n, .bool dn, .slice ka M kc]] w fun r w' => r = .returned (.bool true) ∧ St w' B P Q (N + 1) ∧ BK B w w' := by
  have b0 := (Below.refl w.heap.size w).alloc (Nat.le_refl _) (.cells #[.int .u8 6, .string a, .string b, .slice pa L pc, .int .i64 n, .bool dn, .slice ka M kc] 36)
  have V0 := va_new w [.int .u8 6, .string a, .string b, .slice pa L pc, .int .i64 n, .bool dn, .slice ka M kc] 36
  have c0 := V0.cell 0 (v := .int .u8 6) rfl
  have HV0 : Hid (VA (w.alloc (.cells #[.int .u8 6, .string a, .string b, .slice pa L pc, .int .i64 n, .bool dn, .slice ka M kc] 36)) w.heap.size [.int .u8 6, .string a, .string b, .slice pa L pc, .int .i64 n, .bool dn, .slice ka M kc] 36) := V0
  have HS0 : Hid (St (w.alloc (.cells #[.int .u8 6, .string a, .string b, .slice pa L pc, .int .i64 n, .bool dn, .slice ka M kc] 36)) B P Q N) := h.step b0
  have HB0 : Hid (BK B w (w.alloc (.cells #[.int .u8 6, .string a, .string b, .slice pa L pc, .int .i64 n, .bool dn, .slice ka M kc] 36))) := BK.b b0 h.lt
  have HBL : Hid (B ≤ w.heap.size) := h.lt
  clear b0 V0 h
  have HM : Hid (M = ks.length) := hM
  clear hM
  go_enter Try.func12, Try.ntmps12
  go_upto_region 23 with fail
  clear c0
  refine wp_region_noPanic ?_
  refine wp_region_held_drew (S := fun V => VA V w.heap.size [.int .u8 6, .string a, .string b, .slice pa L pc, .int .i64 n, .bool dn, .slice ka M kc] 36) (by kernel_rfl) (VA.drew HV0.out) ?_
  intro hHeld
  have bd := (Below.refl (w.alloc (.cells #[.int .u8 6, .string a, .string b, .slice pa L pc, .int .i64 n, .bool dn, .slice ka M kc] 36)).heap.size (w.alloc (.cells #[.int .u8 6, .string a, .string b, .slice pa L pc, .int .i64 n, .bool dn, .slice ka M kc] 36))).drew
  have HSW : Hid (St (w.alloc (.cells #[.int .u8 6, .string a, .string b, .slice pa L pc, .int .i64 n, .bool dn, .slice ka M kc] 36)).drew B P Q N) := HS0.out.step bd
  have HBW : Hid (BK B w (w.alloc (.cells #[.int .u8 6, .string a, .string b, .slice pa L pc, .int .i64 n, .bool dn, .slice ka M kc] 36)).drew) := HB0.out.trans (BK.b bd (Nat.le_trans HBL.out HB0.out.bel.size))
  clear bd HS0 HB0
  generalize (w.alloc (.cells #[.int .u8 6, .string a, .string b, .slice pa L pc, .int .i64 n, .bool dn, .slice ka M kc] 36)).drew = W0 at *
  refine takeD 0 119 (P) (by exact rfl) rfl (by kernel_rfl) (by kernel_rfl) (by kernel_rfl) (fun _ _ _ h => h) (Or.inl ⟨by rfl, ?_⟩) (by assumption) ?_
  · intro wq hS
    go_simp
  try simp only [Act.put, List.setIfInBounds_toArray, List.set_cons_zero, List.set_cons_succ]
  refine takeD 1 120 (.pointer (some ⟨w.heap.size, 5, none⟩)) (by exact rfl) rfl (by kernel_rfl) (by kernel_rfl) (by kernel_rfl) (fun _ _ _ h => h) (Or.inl ⟨by rfl, ?_⟩) (by assumption) ?_
  · intro wq hS
    go_simp
  try simp only [Act.put, List.setIfInBounds_toArray, List.set_cons_zero, List.set_cons_succ]
  refine takeD 2 121 (.agg #[.bool dn, .slice ka M kc]) (by exact rfl) rfl (by kernel_rfl) (by kernel_rfl) (by kernel_rfl) (fun _ _ _ h => h) (yieldsIf_load_mid (by rfl) _ _ rfl _ _ rfl [.bool dn, .slice ka M kc] _ (fun wq hS => (fun j u hj => fateAt hS j u hj)) Try.underlying34 rfl infoFt2) (by assumption) ?_
  try simp only [Act.put, List.setIfInBounds_toArray, List.set_cons_zero, List.set_cons_succ]
  refine takeD 5 124 (Q) (by exact rfl) rfl (by kernel_rfl) (by kernel_rfl) (by kernel_rfl) (fun _ _ _ h => h) (Or.inl ⟨by rfl, ?_⟩) (by assumption) ?_
  · intro wq hS
    go_simp
  try simp only [Act.put, List.setIfInBounds_toArray, List.set_cons_zero, List.set_cons_succ]
  refine takeD 6 125 (.pointer (some ⟨w.heap.size, 5, none⟩)) (by exact rfl) rfl (by kernel_rfl) (by kernel_rfl) (by kernel_rfl) (fun _ _ _ h => h) (Or.inl ⟨by rfl, ?_⟩) (by assumption) ?_
  · intro wq hS
    go_simp
  try simp only [Act.put, List.setIfInBounds_toArray, List.set_cons_zero, List.set_cons_succ]
  refine takeD 7 126 (.agg #[.bool dn, .slice ka M kc]) (by exact rfl) rfl (by kernel_rfl) (by kernel_rfl) (by kernel_rfl) (fun _ _ _ h => h) (yieldsIf_load_mid (by rfl) _ _ rfl _ _ rfl [.bool dn, .slice ka M kc] _ (fun wq hS => (fun j u hj => fateAt hS j u hj)) Try.underlying34 rfl infoFt2) (by assumption) ?_
  try simp only [Act.put, List.setIfInBounds_toArray, List.set_cons_zero, List.set_cons_succ]
  refine wpAnyH_ready (rs := [3]) (by kernel_rfl) (by simp) ?_
  refine AllReadyH.cons (by exact rfl) (fun K hK => ?_) AllReadyH.nil
  go_simp
  refine (fate_ok W0 dn (.slice ka M kc) ks (hkk W0 HBW.out.bel) (by have := HM.out; omega) (fun n c e => by injection e with e1 _ e3; rw [← e3]; exact hno e1)).mono ?_
  rintro r W1 ⟨⟨u, rfl, hbl, hsf⟩, b1⟩
  go_wp2_with fail
  have hHeld0 := hHeld.step b1
  refine hK.out _ _ hHeld0 (fun _ => ?_)
  clear hK K
  try simp only [Act.put, List.setIfInBounds_toArray, List.set_cons_zero, List.set_cons_succ]
  have HBW1 : Hid (BK B w W1) := HBW.out.trans (BK.b b1 (Nat.le_trans HBL.out HBW.out.bel.size))
  refine wpAnyH_ready (rs := [4]) (by kernel_rfl) (by simp) ?_
  refine AllReadyH.cons (by exact rfl) (fun K hK => ?_) AllReadyH.nil
  go_simp
  refine (bRest W1 B N P Q (HSW.out.step b1) hN dn u ks hbl hsf (by have := HM.out; omega) ka M kc HM.out (fun w' h => hkk w' (HBW1.out.bel.trans h)) hkb).mono ?_
  rintro r W2 ⟨c, rfl, k1, nx⟩
  go_wp2_with fail
  refine hK.out _ _ (k1.op _ _ hHeld0) (fun hHeld1 => ?_)
  clear hK K
  try simp only [Act.put, List.setIfInBounds_toArray, List.set_cons_zero, List.set_cons_succ]
  refine wpAnyH_ready (rs := [8]) (by kernel_rfl) (by simp) ?_
  refine AllReadyH.cons (by exact rfl) (fun K hK => ?_) AllReadyH.nil
  go_simp
  refine (nx W2 (Below.refl _ _)).mono ?_
  rintro r W3 ⟨rfl, s2, k2⟩
  go_wp2_with fail
  refine hK.out _ _ (k2.op _ _ hHeld1) (fun hHeld2 => ?_)
  clear hK K
  try simp only [Act.put, List.setIfInBounds_toArray, List.set_cons_zero, List.set_cons_succ]
  refine takeD 9 128 (.bool true) (by exact rfl) rfl (by kernel_rfl) (by kernel_rfl) (by kernel_rfl) (fun _ _ _ h => h) (Or.inl ⟨by rfl, ?_⟩) (by assumption) ?_
  · intro wq hS
    go_simp
  try simp only [Act.put, List.setIfInBounds_toArray, List.set_cons_zero, List.set_cons_succ]
  refine takeD 10 6 (.bool true) (by exact rfl) rfl (by kernel_rfl) (by kernel_rfl) (by kernel_rfl) (fun _ _ _ h => h) (Or.inl ⟨by rfl, ?_⟩) (by assumption) ?_
  · intro wq hS
    go_simp
  try simp only [Act.put, List.setIfInBounds_toArray, List.set_cons_zero, List.set_cons_succ]
  have HFIN : Hid (St W3 B P Q (N + 1) ∧ BK B w W3) := ⟨s2, (HBW1.out.trans k1).trans k2⟩
  clear s2 k1 k2 nx hHeld hHeld1 hHeld2
  refine wpAnyH_done (by kernel_rfl) ?_ _
  refine NoPanic.normal ?_
  go_wp2_with fail
  go_ret
  exact ⟨rfl, HFIN.out.1, HFIN.out.2⟩
set_option maxRecDepth 100000 in
theorem call_o (w : World) (B N : Nat) (P Q : Value) (h : St w B P Q N) (k : Nat) (hk : 7 ≤ k) (hk2 : k < 256) (a b : ByteArray) (pa : Option Addr) (L pc : Nat) (n : Int) (dn : Bool) (ka : Option Addr) (M kc : Nat) :
    Calls Try.prog 12 #[P, Q, .agg #[.int .u8 (k : Int), .string a, .string b, .slice pa L pc, .int .i64 n, .bool dn, .slice ka M kc]] w fun r w' => r = .returned (.bool true) ∧ St w' B P Q (N + 1) ∧ BK B w w' := by
  have b0 := (Below.refl w.heap.size w).alloc (Nat.le_refl _) (.cells #[.int .u8 (k : Int), .string a, .string b, .slice pa L pc, .int .i64 n, .bool dn, .slice ka M kc] 36)
  have HF := (show Hid _ from And.intro ((h.step b0).mono (Nat.le_succ N)) (BK.b b0 h.lt))
  clear b0 h
  obtain ⟨z, hz⟩ : ∃ z : Int, z = (k : Int) := ⟨_, rfl⟩
  rw [← hz] at HF ⊢
  have HZ := (show Hid _ from hz)
  have e0 : (z == 0) = false := by simp; omega
  have g0 : (z = 0) = False := by simp; omega
  have e1 : (z == 1) = false := by simp; omega
  have g1 : (z = 1) = False := by simp; omega
  have e2 : (z == 2) = false := by simp; omega
  have g2 : (z = 2) = False := by simp; omega
  have e3 : (z == 3) = false := by simp; omega
  have g3 : (z = 3) = False := by simp; omega
  have e4 : (z == 4) = false := by simp; omega
  have g4 : (z = 4) = False := by simp; omega
  have e5 : (z == 5) = false := by simp; omega
  have g5 : (z = 5) = False := by simp; omega
  have e6 : (z == 6) = false := by simp; omega
  have g6 : (z = 6) = False := by simp; omega
  clear hz
  go_enter Try.func12, Try.ntmps12
  go_wp2_with fail
  go_ret
  exact ⟨rfl, HF.out.1, HF.out.2⟩
end Go.Proofs.Ytakgkpiicigihaa
/- disk LXIV: DiskPlays: the law's walk. -/
namespace Go.Proofs.Ytakgkpiicigihaa
open Go.RowKit Go.Maps Go.Sort Go.Shelf pk
set_option linter.unusedVariables false
set_option linter.unusedSimpArgs false

/-- a call of the law, whatever it is -/
theorem call_any (w : World) (B N : Nat) (P Q : Value) (h : St w B P Q N) (hN : N ≤ 1000000) (k : Nat) (hk : k < 256) (a b : ByteArray) (ha : a.size ≤ 9223372036854775807) (hb : b.size ≤ 9223372036854775807) (pa : Option Addr) (L pc : Nat) (n : Int) (hn1 : -9223372036854775808 ≤ n) (hn2 : n ≤ 9223372036854775807) (dn : Bool) (ka : Option Addr) (M kc : Nat)
    (bs : List Nat) (hL : L = bs.length) (hLb : L ≤ 2000) (hp : ∀ w', Below B w w' → Bs w' (.slice pa L pc) bs) (ks : List Bool) (hM : M = ks.length) (hMl : M ≤ 140737488351232) (hno : ka = none → kc = 0) (hkk : ∀ w', Below B w w' → Bl w' (.slice ka M kc) ks) (hkb : 0 < M → ∀ b off n c, Value.slice ka M kc = .slice (some ⟨b, off, none⟩) n c → b < B) :
    Calls Try.prog 12 #[P, Q, .agg #[.int .u8 (k : Int), .string a, .string b, .slice pa L pc, .int .i64 n, .bool dn, .slice ka M kc]] w fun r w' => r = .returned (.bool true) ∧ St w' B P Q (N + 1) ∧ BK B w w' := by
  rcases (show k = 0 ∨ k = 1 ∨ k = 2 ∨ k = 3 ∨ k = 4 ∨ k = 5 ∨ k = 6 ∨ 7 ≤ k by omega) with rfl | rfl | rfl | rfl | rfl | rfl | rfl | h7
  · exact call_0 w B N P Q h hN a b ha hb pa L pc n hn1 hn2 dn ka M kc bs hL hLb hp
  · exact call_1 w B N P Q h hN a b ha hb pa L pc n hn1 hn2 dn ka M kc
  · exact call_2 w B N P Q h hN a b ha hb pa L pc n hn1 hn2 dn ka M kc
  · exact call_3 w B N P Q h hN a b ha hb pa L pc n hn1 hn2 dn ka M kc
  · exact call_4 w B N P Q h hN a b ha hb pa L pc n hn1 hn2 dn ka M kc
  · exact call_5 w B N P Q h hN a b ha hb pa L pc n hn1 hn2 dn ka M kc
  · exact call_6 w B N P Q h hN a b ha hb pa L pc n hn1 hn2 dn ka M kc ks hM hMl hno hkk hkb
  · exact call_o w B N P Q h k h7 hk a b pa L pc n dn ka M kc
theorem RD.lower {w : World} {B B' q : Nat} {fv : Value} {y : RK} (h : RD w B' q fv y) (hB : B ≤ B') : RD w B q fv y := ⟨h.va, h.row.lower hB, h.fil, Nat.le_trans hB h.lo, h.cnt, h.room⟩
theorem Bl.below {w : World} {ka : Option Addr} {M kc : Nat} {ks : List Bool} (h : Bl w (.slice ka M kc) ks) : 0 < M → ∀ b off n c, Value.slice ka M kc = .slice (some ⟨b, off, none⟩) n c → b < w.heap.size := by
  intro h0 b off n c e
  obtain ⟨a, c', e1, h1, h2, h3⟩ := h.form
  injection e1 with e1 e2 e3
  obtain ⟨b2, o2, e4, h5⟩ := h3 (by omega)
  injection e with e5 _ _
  rw [e1, e4] at e5
  injection e5 with e5
  injection e5 with e6 _ _
  have := h5 0 (by omega)
  rw [e6] at this
  exact World.block_lt_of_cell? w _ this
theorem Bl.stepW {w w' : World} {v : Value} {ks : List Bool} (h : Bl w v ks) (k : Below w.heap.size w w') : Bl w' v ks := (h.sl.step k).bl
theorem OpIn.stepW {w w' : World} {o : OpD} (h : OpIn w o) (k : Below w.heap.size w w') : OpIn w' o := ⟨h.k, h.p.step k, h.f.stepW k, h.no, h.n⟩
theorem infoO7 : (Try.prog.info? 36).map (·.size) = some 7 := by kernel_rfl
set_option maxRecDepth 100000 in
set_option maxHeartbeats 8000000 in
theorem plays_in (n : Int) (v : Value) (os : List OpD) (w : World) (hb : Sl KO w v os) (hos : ∀ o ∈ os, OpIn w o ∧ OpSz 140737488351232 o) (hl : os.length ≤ 140737488351232) (h1 : 1 ≤ n) (h2 : n ≤ 65536) :
    Calls Try.prog 3 #[.int .i64 n, v] w fun e w' => e = .returned (.bool true) ∧ Below w.heap.size w w' := by
  have HSL := (show Hid _ from hb)
  have HOS : Hid (∀ o ∈ os, OpIn w o ∧ OpSz 140737488351232 o) := hos
  obtain ⟨oa, oc, rfl, hoc1, hoc2, _⟩ := hb.form
  clear hb hos
  generalize hN : os.length = N at *
  have HN := (show Hid _ from hN)
  clear hN
  obtain ⟨nn, rfl⟩ : ∃ nn : Nat, n = (nn : Int) := ⟨n.toNat, by omega⟩
  have HNN : Hid (1 ≤ nn ∧ nn ≤ 65536) := ⟨by omega, by omega⟩
  clear h1 h2
  go_enter Try.func3, Try.ntmps3
  go_wp2_with (go_at_call 9; refine (awake_ok _).mono ?_; rintro e w1 ⟨rfl, b1⟩)
  have HB1 : Hid (Below w.heap.size w w1) := b1
  clear b1
  refine (new_any nn w1 HNN.out.1 HNN.out.2).mono ?_
  rintro e wa ⟨p, m, rfl, hA, ba⟩
  have HA : Hid (DA wa w1.heap.size p m ⟨nn, 0, 0, true, none, []⟩) := hA
  have HBA : Hid (Below w1.heap.size w1 wa) := ba
  clear hA ba
  unfold ptr
  go_wp2_with fail
  refine (rnew_ok nn wa HNN.out.1 HNN.out.2).mono ?_
  rintro e w2 ⟨q, rfl, hR, b2⟩
  have HBW : Hid (Below w.heap.size w w2) := HB1.out.trans ((HBA.out.trans (b2.mono HBA.out.size)).mono HB1.out.size)
  have HBB : Hid (w.heap.size ≤ w1.heap.size) := HB1.out.size
  have HST : Hid (St w2 w1.heap.size (.pointer (some ⟨p, 0, none⟩)) (.pointer (some ⟨q, 0, none⟩)) 0) := .inr ⟨p, m, q, _, _, rfl, rfl, ⟨HA.out.step b2, ⟨_, hR.lower HBA.out.size⟩, Rel.new nn, by show 0 ≤ _; omega⟩, by show 0 ≤ 0; omega⟩
  clear hR b2 HA HBA
  generalize w1.heap.size = B at *
  unfold ptr
  have HALL : Hid (∀ w', Below B w2 w' → Below w.heap.size w w') := fun w' h => HBW.out.trans (h.mono HBB.out)
  go_wp2_with fail
  go_loopw [35] (fun i wr => ∃ k : Nat, k ≤ N ∧ k ≤ 200 ∧ i = .int .i64 (k : Int) ∧ Hid (St wr B (.pointer (some ⟨p, 0, none⟩)) (.pointer (some ⟨q, 0, none⟩)) k) ∧ Hid (Below B w2 wr)) (fun i _ => N - (intOf i).toNat)
  case atStart => exact ⟨0, Nat.zero_le _, Nat.zero_le _, rfl, HST.out, Below.refl _ _⟩
  case round =>
    obtain ⟨k, hk, hk200, rfl, HS, HBE⟩ := hrel
    clear HST
    by_cases hlt : k < N
    · have dk : (k : Int) < (N : Int) := by omega
      obtain ⟨o, ho⟩ : ∃ o, os[k]? = some o := ⟨_, List.getElem?_eq_getElem (by rw [HN.out]; exact hlt)⟩
      obtain ⟨b, off, rfl, hbl, hcell⟩ := (HSL.out.step (HALL.out wr HBE.out)).at k o ho
      have HCL : Hid (∀ j u, o.cells[j]? = some u → wr.cell? ⟨b, off + k * 7 + j, none⟩ = some u) := hcell
      have hmem := List.mem_of_getElem? ho
      have HOI : Hid (∀ w', Below B w2 w' → OpIn w' o) := fun w' h => ((HOS.out o hmem).1).stepW (HALL.out w' h)
      have HKB : Hid (0 < o.ks.length → ∀ b off n c, Value.slice o.ka o.ks.length o.kc = .slice (some ⟨b, off, none⟩) n c → b < B) := fun h0 b off n c e => Nat.lt_of_lt_of_le ((HOS.out o hmem).1.f.below h0 b off n c e) HBB.out
      have HKN : Hid (o.ka = none → o.kc = 0) := (HOS.out o hmem).1.no
      have hsz := (HOS.out o hmem).2
      have hk256 := (HOI.out wr HBE.out).k
      have hnn := (HOI.out wr HBE.out).n
      obtain ⟨_, _, _, hpe, hp1, hp2, _⟩ := (HOI.out wr HBE.out).p
      cases hpe
      have hsz1 := hsz.1
      have hsz2 := hsz.2.1
      have hsa := hsz.2.2.1
      have hsb := hsz.2.2.2
      clear hcell hmem ho hsz
      obtain ⟨ok, oaa, obb, opa, opc, obs, on, odn, oka, okc, oks⟩ := o
      dsimp only at hk256 hp1 hp2 hsz1 hsz2 hnn hsa hsb
      dsimp only at HKB HKN
      obtain ⟨L, hL⟩ : ∃ L, L = min obs.length 2000 := ⟨_, rfl⟩
      have HXP : Hid (∀ w', Below B w2 w' → Bs w' (.slice opa L opc) (obs.take L)) := fun w' h => ((HOI.out w' h).p).cut L (by show L ≤ obs.length; omega)
      have HXL : Hid (L = (obs.take L).length) := (show L = (obs.take L).length by rw [List.length_take]; omega)
      have HXF : Hid (∀ w', Below B w2 w' → Bl w' (.slice oka oks.length okc) oks) := fun w' h => (HOI.out w' h).f
      generalize hxs : obs.take L = xs at HXP HXL
      clear hxs
      unfold OpD.cells at HCL
      dsimp only at HCL
      generalize hln : obs.length = ln at *
      obtain ⟨kn, hkn⟩ : ∃ kn, kn = oks.length := ⟨_, rfl⟩
      have HKL : Hid (kn = oks.length) := hkn
      rw [← hkn] at HCL HKB HXF hsz2
      clear hkn
      have hmin : ∀ w', (Builtin.min_ #[3, 3] 3 #[.int .i64 (ln : Int), .int .i64 2000]).run Try.prog w' = .ok (.int .i64 (L : Int)) w' := fun w' => cut_min w' ln 2000 L (by omega) hL
      have e1 : (L : Int) ≤ (ln : Int) := by omega
      have e2 : (L : Int) ≤ (opc : Int) := by omega
      have e3 : L ≤ 2000 := by omega
      clear hln hL HOI
      by_cases h200 : 200 ≤ k
      · have d200 : (200 : Int) ≤ (k : Int) := by omega
        have b7 := (Below.refl wr.heap.size wr).alloc (Nat.le_refl _) (.cells #[.int .u8 (ok : Int), .string oaa, .string obb, .slice opa ln opc, .int .i64 on, .bool odn, .slice oka kn okc] 36)
        have HF : Hid (Below w.heap.size w _) := HALL.out _ (HBE.out.trans (b7.mono HS.out.lt))
        clear b7
        go_wp2_with (refine wpList_load_mid rfl 36 _ rfl b (off + k * 7) (by rfl) _ _ HCL.out Try.underlying36 rfl infoO7 ?_)
        go_ret
        exact ⟨rfl, HF.out⟩
      · have d200 : (k : Int) < 200 := by omega
        have b7 := (Below.refl wr.heap.size wr).alloc (Nat.le_refl _) (.cells #[.int .u8 (ok : Int), .string oaa, .string obb, .slice opa L opc, .int .i64 on, .bool odn, .slice oka kn okc] 36)
        have HS7 : Hid (St (wr.alloc (.cells #[.int .u8 (ok : Int), .string oaa, .string obb, .slice opa L opc, .int .i64 on, .bool odn, .slice oka kn okc] 36)) B (.pointer (some ⟨p, 0, none⟩)) (.pointer (some ⟨q, 0, none⟩)) k) := HS.out.step b7
        have HB7 : Hid (Below B w2 (wr.alloc (.cells #[.int .u8 (ok : Int), .string oaa, .string obb, .slice opa L opc, .int .i64 on, .bool odn, .slice oka kn okc] 36))) := HBE.out.trans (b7.mono HS.out.lt)
        have HV7 : Hid (VA (wr.alloc (.cells #[.int .u8 (ok : Int), .string oaa, .string obb, .slice opa L opc, .int .i64 on, .bool odn, .slice oka kn okc] 36)) wr.heap.size [.int .u8 (ok : Int), .string oaa, .string obb, .slice opa L opc, .int .i64 on, .bool odn, .slice oka kn okc] 36) := va_new wr _ _
        clear b7
        go_upto_region 12 with (refine wpList_load_mid rfl 36 _ rfl b (off + k * 7) (by rfl) _ _ HCL.out Try.underlying36 rfl infoO7 ?_)
        generalize hw7 : wr.alloc (.cells #[.int .u8 (ok : Int), .string oaa, .string obb, .slice opa L opc, .int .i64 on, .bool odn, .slice oka kn okc] 36) = w7 at *
        generalize wr.heap.size = bo at *
        clear hw7
        have HV7c : Hid (∀ j u, ([.int .u8 (ok : Int), .string oaa, .string obb, .slice opa L opc, .int .i64 on, .bool odn, .slice oka kn okc] : List Value)[j]? = some u → w7.cell? ⟨bo, 0 + j, none⟩ = some u) := fun j u hj => by rw [Nat.zero_add]; exact HV7.out.cell j hj
        go_wp2_with (refine wpList_load_mid rfl 36 _ rfl bo 0 (by rfl) _ _ HV7c.out Try.underlying36 rfl infoO7 ?_)
        refine (call_any w7 B k (.pointer (some ⟨p, 0, none⟩)) (.pointer (some ⟨q, 0, none⟩)) HS7.out (by omega) ok hk256 oaa obb (by omega) (by omega) opa L opc on hnn.1 hnn.2 odn oka kn okc xs HXL.out e3 (fun w' h => HXP.out w' (HB7.out.trans h)) oks HKL.out hsz2 HKN.out (fun w' h => HXF.out w' (HB7.out.trans h)) HKB.out).mono ?_
        rintro e w8 ⟨rfl, s8, k8⟩
        have HS8 : Hid (St w8 B (.pointer (some ⟨p, 0, none⟩)) (.pointer (some ⟨q, 0, none⟩)) (k + 1)) := s8
        have HB8 : Hid (Below B w2 w8) := HB7.out.trans k8.bel
        have HV8 : Hid (VA w8 bo [.int .u8 (ok : Int), .string oaa, .string obb, .slice opa L opc, .int .i64 on, .bool odn, .slice oka kn okc] 36) := k8.op _ _ HV7.out
        have a8 := HV8.out.cell 1 (v := .string oaa) rfl
        clear s8 k8 HS7 HB7 HV7 HV7c
        go_wp2_with fail
        refine (looks_ok w8 B (k + 1) (.pointer (some ⟨p, 0, none⟩)) (.pointer (some ⟨q, 0, none⟩)) HS8.out oaa (by omega)).mono ?_
        rintro e w9 ⟨rfl, b9⟩
        have HS9 : Hid (St w9 B (.pointer (some ⟨p, 0, none⟩)) (.pointer (some ⟨q, 0, none⟩)) (k + 1)) := HS8.out.step b9
        have HB9 : Hid (Below B w2 w9) := HB8.out.trans (b9.mono HS8.out.lt)
        have HV9 : Hid (VA w9 bo [.int .u8 (ok : Int), .string oaa, .string obb, .slice opa L opc, .int .i64 on, .bool odn, .slice oka kn okc] 36) := HV8.out.step b9
        have a9 := HV9.out.cell 2 (v := .string obb) rfl
        clear b9 a8 HS8 HB8 HV8
        go_wp2_with fail
        refine (looks_ok w9 B (k + 1) (.pointer (some ⟨p, 0, none⟩)) (.pointer (some ⟨q, 0, none⟩)) HS9.out obb (by omega)).mono ?_
        rintro e w10 ⟨rfl, b10⟩
        have HS10 : Hid (St w10 B (.pointer (some ⟨p, 0, none⟩)) (.pointer (some ⟨q, 0, none⟩)) (k + 1)) := HS9.out.step b10
        have HB10 : Hid (Below B w2 w10) := HB9.out.trans (b10.mono HS9.out.lt)
        clear b10 a9 HS9 HB9 HV9
        go_wp2_with fail
        go_roundw
        case rel => exact ⟨k + 1, by omega, by omega, by simp, HS10.out, HB10.out⟩
        case measure => simp [intOf]; omega
    · obtain rfl : k = N := by omega
      go_wp2_with fail
      go_ret
      exact ⟨rfl, HALL.out wr HBE.out⟩
set_option maxRecDepth 100000 in
set_option maxHeartbeats 8000000 in
theorem plays_low (n : Int) (v : Value) (os : List OpD) (w : World) (hb : Sl KO w v os) (hos : ∀ o ∈ os, OpIn w o ∧ OpSz 140737488351232 o) (hl : os.length ≤ 140737488351232) (h1 : n < 1) :
    Calls Try.prog 3 #[.int .i64 n, v] w fun e w' => e = .returned (.bool true) ∧ Below w.heap.size w w' := by
  have HSL := (show Hid _ from hb)
  have HOS : Hid (∀ o ∈ os, OpIn w o ∧ OpSz 140737488351232 o) := hos
  obtain ⟨oa, oc, rfl, hoc1, hoc2, _⟩ := hb.form
  clear hb hos
  generalize hN : os.length = N at *
  have HN := (show Hid _ from hN)
  clear hN
  have hx := h1
  clear h1
  go_enter Try.func3, Try.ntmps3
  go_wp2_with (go_at_call 9; refine (awake_ok _).mono ?_; rintro e w1 ⟨rfl, b1⟩)
  have HB1 : Hid (Below w.heap.size w w1) := b1
  clear b1
  refine (new_badA w1 n hx).mono ?_
  rintro e wa ⟨rfl, ba⟩
  have HBA : Hid (Below w1.heap.size w1 wa) := ba
  clear ba
  go_wp2_with fail
  refine (rnew_badA wa n hx).mono ?_
  rintro e w2 ⟨rfl, b2⟩
  have HBW : Hid (Below w.heap.size w w2) := HB1.out.trans ((HBA.out.trans (b2.mono HBA.out.size)).mono HB1.out.size)
  have HBB : Hid (w.heap.size ≤ w1.heap.size) := HB1.out.size
  have HST : Hid (St w2 w1.heap.size (.pointer none) (.pointer none) 0) := .inl ⟨rfl, rfl, Nat.le_trans HBA.out.size b2.size⟩
  clear b2 HBA
  generalize w1.heap.size = B at *
  have HALL : Hid (∀ w', Below B w2 w' → Below w.heap.size w w') := fun w' h => HBW.out.trans (h.mono HBB.out)
  go_wp2_with fail
  go_loopw [35] (fun i wr => ∃ k : Nat, k ≤ N ∧ k ≤ 200 ∧ i = .int .i64 (k : Int) ∧ Hid (St wr B (.pointer none) (.pointer none) k) ∧ Hid (Below B w2 wr)) (fun i _ => N - (intOf i).toNat)
  case atStart => exact ⟨0, Nat.zero_le _, Nat.zero_le _, rfl, HST.out, Below.refl _ _⟩
  case round =>
    obtain ⟨k, hk, hk200, rfl, HS, HBE⟩ := hrel
    clear HST
    by_cases hlt : k < N
    · have dk : (k : Int) < (N : Int) := by omega
      obtain ⟨o, ho⟩ : ∃ o, os[k]? = some o := ⟨_, List.getElem?_eq_getElem (by rw [HN.out]; exact hlt)⟩
      obtain ⟨b, off, rfl, hbl, hcell⟩ := (HSL.out.step (HALL.out wr HBE.out)).at k o ho
      have HCL : Hid (∀ j u, o.cells[j]? = some u → wr.cell? ⟨b, off + k * 7 + j, none⟩ = some u) := hcell
      have hmem := List.mem_of_getElem? ho
      have HOI : Hid (∀ w', Below B w2 w' → OpIn w' o) := fun w' h => ((HOS.out o hmem).1).stepW (HALL.out w' h)
      have HKB : Hid (0 < o.ks.length → ∀ b off n c, Value.slice o.ka o.ks.length o.kc = .slice (some ⟨b, off, none⟩) n c → b < B) := fun h0 b off n c e => Nat.lt_of_lt_of_le ((HOS.out o hmem).1.f.below h0 b off n c e) HBB.out
      have HKN : Hid (o.ka = none → o.kc = 0) := (HOS.out o hmem).1.no
      have hsz := (HOS.out o hmem).2
      have hk256 := (HOI.out wr HBE.out).k
      have hnn := (HOI.out wr HBE.out).n
      obtain ⟨_, _, _, hpe, hp1, hp2, _⟩ := (HOI.out wr HBE.out).p
      cases hpe
      have hsz1 := hsz.1
      have hsz2 := hsz.2.1
      have hsa := hsz.2.2.1
      have hsb := hsz.2.2.2
      clear hcell hmem ho hsz
      obtain ⟨ok, oaa, obb, opa, opc, obs, on, odn, oka, okc, oks⟩ := o
      dsimp only at hk256 hp1 hp2 hsz1 hsz2 hnn hsa hsb
      dsimp only at HKB HKN
      obtain ⟨L, hL⟩ : ∃ L, L = min obs.length 2000 := ⟨_, rfl⟩
      have HXP : Hid (∀ w', Below B w2 w' → Bs w' (.slice opa L opc) (obs.take L)) := fun w' h => ((HOI.out w' h).p).cut L (by show L ≤ obs.length; omega)
      have HXL : Hid (L = (obs.take L).length) := (show L = (obs.take L).length by rw [List.length_take]; omega)
      have HXF : Hid (∀ w', Below B w2 w' → Bl w' (.slice oka oks.length okc) oks) := fun w' h => (HOI.out w' h).f
      generalize hxs : obs.take L = xs at HXP HXL
      clear hxs
      unfold OpD.cells at HCL
      dsimp only at HCL
      generalize hln : obs.length = ln at *
      obtain ⟨kn, hkn⟩ : ∃ kn, kn = oks.length := ⟨_, rfl⟩
      have HKL : Hid (kn = oks.length) := hkn
      rw [← hkn] at HCL HKB HXF hsz2
      clear hkn
      have hmin : ∀ w', (Builtin.min_ #[3, 3] 3 #[.int .i64 (ln : Int), .int .i64 2000]).run Try.prog w' = .ok (.int .i64 (L : Int)) w' := fun w' => cut_min w' ln 2000 L (by omega) hL
      have e1 : (L : Int) ≤ (ln : Int) := by omega
      have e2 : (L : Int) ≤ (opc : Int) := by omega
      have e3 : L ≤ 2000 := by omega
      clear hln hL HOI
      by_cases h200 : 200 ≤ k
      · have d200 : (200 : Int) ≤ (k : Int) := by omega
        have b7 := (Below.refl wr.heap.size wr).alloc (Nat.le_refl _) (.cells #[.int .u8 (ok : Int), .string oaa, .string obb, .slice opa ln opc, .int .i64 on, .bool odn, .slice oka kn okc] 36)
        have HF : Hid (Below w.heap.size w _) := HALL.out _ (HBE.out.trans (b7.mono HS.out.lt))
        clear b7
        go_wp2_with (refine wpList_load_mid rfl 36 _ rfl b (off + k * 7) (by rfl) _ _ HCL.out Try.underlying36 rfl infoO7 ?_)
        go_ret
        exact ⟨rfl, HF.out⟩
      · have d200 : (k : Int) < 200 := by omega
        have b7 := (Below.refl wr.heap.size wr).alloc (Nat.le_refl _) (.cells #[.int .u8 (ok : Int), .string oaa, .string obb, .slice opa L opc, .int .i64 on, .bool odn, .slice oka kn okc] 36)
        have HS7 : Hid (St (wr.alloc (.cells #[.int .u8 (ok : Int), .string oaa, .string obb, .slice opa L opc, .int .i64 on, .bool odn, .slice oka kn okc] 36)) B (.pointer none) (.pointer none) k) := HS.out.step b7
        have HB7 : Hid (Below B w2 (wr.alloc (.cells #[.int .u8 (ok : Int), .string oaa, .string obb, .slice opa L opc, .int .i64 on, .bool odn, .slice oka kn okc] 36))) := HBE.out.trans (b7.mono HS.out.lt)
        have HV7 : Hid (VA (wr.alloc (.cells #[.int .u8 (ok : Int), .string oaa, .string obb, .slice opa L opc, .int .i64 on, .bool odn, .slice oka kn okc] 36)) wr.heap.size [.int .u8 (ok : Int), .string oaa, .string obb, .slice opa L opc, .int .i64 on, .bool odn, .slice oka kn okc] 36) := va_new wr _ _
        clear b7
        go_upto_region 12 with (refine wpList_load_mid rfl 36 _ rfl b (off + k * 7) (by rfl) _ _ HCL.out Try.underlying36 rfl infoO7 ?_)
        generalize hw7 : wr.alloc (.cells #[.int .u8 (ok : Int), .string oaa, .string obb, .slice opa L opc, .int .i64 on, .bool odn, .slice oka kn okc] 36) = w7 at *
        generalize wr.heap.size = bo at *
        clear hw7
        have HV7c : Hid (∀ j u, ([.int .u8 (ok : Int), .string oaa, .string obb, .slice opa L opc, .int .i64 on, .bool odn, .slice oka kn okc] : List Value)[j]? = some u → w7.cell? ⟨bo, 0 + j, none⟩ = some u) := fun j u hj => by rw [Nat.zero_add]; exact HV7.out.cell j hj
        go_wp2_with (refine wpList_load_mid rfl 36 _ rfl bo 0 (by rfl) _ _ HV7c.out Try.underlying36 rfl infoO7 ?_)
        refine (call_any w7 B k (.pointer none) (.pointer none) HS7.out (by omega) ok hk256 oaa obb (by omega) (by omega) opa L opc on hnn.1 hnn.2 odn oka kn okc xs HXL.out e3 (fun w' h => HXP.out w' (HB7.out.trans h)) oks HKL.out hsz2 HKN.out (fun w' h => HXF.out w' (HB7.out.trans h)) HKB.out).mono ?_
        rintro e w8 ⟨rfl, s8, k8⟩
        have HS8 : Hid (St w8 B (.pointer none) (.pointer none) (k + 1)) := s8
        have HB8 : Hid (Below B w2 w8) := HB7.out.trans k8.bel
        have HV8 : Hid (VA w8 bo [.int .u8 (ok : Int), .string oaa, .string obb, .slice opa L opc, .int .i64 on, .bool odn, .slice oka kn okc] 36) := k8.op _ _ HV7.out
        have a8 := HV8.out.cell 1 (v := .string oaa) rfl
        clear s8 k8 HS7 HB7 HV7 HV7c
        go_wp2_with fail
        refine (looks_ok w8 B (k + 1) (.pointer none) (.pointer none) HS8.out oaa (by omega)).mono ?_
        rintro e w9 ⟨rfl, b9⟩
        have HS9 : Hid (St w9 B (.pointer none) (.pointer none) (k + 1)) := HS8.out.step b9
        have HB9 : Hid (Below B w2 w9) := HB8.out.trans (b9.mono HS8.out.lt)
        have HV9 : Hid (VA w9 bo [.int .u8 (ok : Int), .string oaa, .string obb, .slice opa L opc, .int .i64 on, .bool odn, .slice oka kn okc] 36) := HV8.out.step b9
        have a9 := HV9.out.cell 2 (v := .string obb) rfl
        clear b9 a8 HS8 HB8 HV8
        go_wp2_with fail
        refine (looks_ok w9 B (k + 1) (.pointer none) (.pointer none) HS9.out obb (by omega)).mono ?_
        rintro e w10 ⟨rfl, b10⟩
        have HS10 : Hid (St w10 B (.pointer none) (.pointer none) (k + 1)) := HS9.out.step b10
        have HB10 : Hid (Below B w2 w10) := HB9.out.trans (b10.mono HS9.out.lt)
        clear b10 a9 HS9 HB9 HV9
        go_wp2_with fail
        go_roundw
        case rel => exact ⟨k + 1, by omega, by omega, by simp, HS10.out, HB10.out⟩
        case measure => simp [intOf]; omega
    · obtain rfl : k = N := by omega
      go_wp2_with fail
      go_ret
      exact ⟨rfl, HALL.out wr HBE.out⟩
set_option maxRecDepth 100000 in
set_option maxHeartbeats 8000000 in
theorem plays_high (n : Int) (v : Value) (os : List OpD) (w : World) (hb : Sl KO w v os) (hos : ∀ o ∈ os, OpIn w o ∧ OpSz 140737488351232 o) (hl : os.length ≤ 140737488351232) (h1 : 65536 < n) :
    Calls Try.prog 3 #[.int .i64 n, v] w fun e w' => e = .returned (.bool true) ∧ Below w.heap.size w w' := by
  have HSL := (show Hid _ from hb)
  have HOS : Hid (∀ o ∈ os, OpIn w o ∧ OpSz 140737488351232 o) := hos
  obtain ⟨oa, oc, rfl, hoc1, hoc2, _⟩ := hb.form
  clear hb hos
  generalize hN : os.length = N at *
  have HN := (show Hid _ from hN)
  clear hN
  have hx := h1
  clear h1
  go_enter Try.func3, Try.ntmps3
  go_wp2_with (go_at_call 9; refine (awake_ok _).mono ?_; rintro e w1 ⟨rfl, b1⟩)
  have HB1 : Hid (Below w.heap.size w w1) := b1
  clear b1
  refine (new_badB w1 n hx).mono ?_
  rintro e wa ⟨rfl, ba⟩
  have HBA : Hid (Below w1.heap.size w1 wa) := ba
  clear ba
  go_wp2_with fail
  refine (rnew_badB wa n hx).mono ?_
  rintro e w2 ⟨rfl, b2⟩
  have HBW : Hid (Below w.heap.size w w2) := HB1.out.trans ((HBA.out.trans (b2.mono HBA.out.size)).mono HB1.out.size)
  have HBB : Hid (w.heap.size ≤ w1.heap.size) := HB1.out.size
  have HST : Hid (St w2 w1.heap.size (.pointer none) (.pointer none) 0) := .inl ⟨rfl, rfl, Nat.le_trans HBA.out.size b2.size⟩
  clear b2 HBA
  generalize w1.heap.size = B at *
  have HALL : Hid (∀ w', Below B w2 w' → Below w.heap.size w w') := fun w' h => HBW.out.trans (h.mono HBB.out)
  go_wp2_with fail
  go_loopw [35] (fun i wr => ∃ k : Nat, k ≤ N ∧ k ≤ 200 ∧ i = .int .i64 (k : Int) ∧ Hid (St wr B (.pointer none) (.pointer none) k) ∧ Hid (Below B w2 wr)) (fun i _ => N - (intOf i).toNat)
  case atStart => exact ⟨0, Nat.zero_le _, Nat.zero_le _, rfl, HST.out, Below.refl _ _⟩
  case round =>
    obtain ⟨k, hk, hk200, rfl, HS, HBE⟩ := hrel
    clear HST
    by_cases hlt : k < N
    · have dk : (k : Int) < (N : Int) := by omega
      obtain ⟨o, ho⟩ : ∃ o, os[k]? = some o := ⟨_, List.getElem?_eq_getElem (by rw [HN.out]; exact hlt)⟩
      obtain ⟨b, off, rfl, hbl, hcell⟩ := (HSL.out.step (HALL.out wr HBE.out)).at k o ho
      have HCL : Hid (∀ j u, o.cells[j]? = some u → wr.cell? ⟨b, off + k * 7 + j, none⟩ = some u) := hcell
      have hmem := List.mem_of_getElem? ho
      have HOI : Hid (∀ w', Below B w2 w' → OpIn w' o) := fun w' h => ((HOS.out o hmem).1).stepW (HALL.out w' h)
      have HKB : Hid (0 < o.ks.length → ∀ b off n c, Value.slice o.ka o.ks.length o.kc = .slice (some ⟨b, off, none⟩) n c → b < B) := fun h0 b off n c e => Nat.lt_of_lt_of_le ((HOS.out o hmem).1.f.below h0 b off n c e) HBB.out
      have HKN : Hid (o.ka = none → o.kc = 0) := (HOS.out o hmem).1.no
      have hsz := (HOS.out o hmem).2
      have hk256 := (HOI.out wr HBE.out).k
      have hnn := (HOI.out wr HBE.out).n
      obtain ⟨_, _, _, hpe, hp1, hp2, _⟩ := (HOI.out wr HBE.out).p
      cases hpe
      have hsz1 := hsz.1
      have hsz2 := hsz.2.1
      have hsa := hsz.2.2.1
      have hsb := hsz.2.2.2
      clear hcell hmem ho hsz
      obtain ⟨ok, oaa, obb, opa, opc, obs, on, odn, oka, okc, oks⟩ := o
      dsimp only at hk256 hp1 hp2 hsz1 hsz2 hnn hsa hsb
      dsimp only at HKB HKN
      obtain ⟨L, hL⟩ : ∃ L, L = min obs.length 2000 := ⟨_, rfl⟩
      have HXP : Hid (∀ w', Below B w2 w' → Bs w' (.slice opa L opc) (obs.take L)) := fun w' h => ((HOI.out w' h).p).cut L (by show L ≤ obs.length; omega)
      have HXL : Hid (L = (obs.take L).length) := (show L = (obs.take L).length by rw [List.length_take]; omega)
      have HXF : Hid (∀ w', Below B w2 w' → Bl w' (.slice oka oks.length okc) oks) := fun w' h => (HOI.out w' h).f
      generalize hxs : obs.take L = xs at HXP HXL
      clear hxs
      unfold OpD.cells at HCL
      dsimp only at HCL
      generalize hln : obs.length = ln at *
      obtain ⟨kn, hkn⟩ : ∃ kn, kn = oks.length := ⟨_, rfl⟩
      have HKL : Hid (kn = oks.length) := hkn
      rw [← hkn] at HCL HKB HXF hsz2
      clear hkn
      have hmin : ∀ w', (Builtin.min_ #[3, 3] 3 #[.int .i64 (ln : Int), .int .i64 2000]).run Try.prog w' = .ok (.int .i64 (L : Int)) w' := fun w' => cut_min w' ln 2000 L (by omega) hL
      have e1 : (L : Int) ≤ (ln : Int) := by omega
      have e2 : (L : Int) ≤ (opc : Int) := by omega
      have e3 : L ≤ 2000 := by omega
      clear hln hL HOI
      by_cases h200 : 200 ≤ k
      · have d200 : (200 : Int) ≤ (k : Int) := by omega
        have b7 := (Below.refl wr.heap.size wr).alloc (Nat.le_refl _) (.cells #[.int .u8 (ok : Int), .string oaa, .string obb, .slice opa ln opc, .int .i64 on, .bool odn, .slice oka kn okc] 36)
        have HF : Hid (Below w.heap.size w _) := HALL.out _ (HBE.out.trans (b7.mono HS.out.lt))
        clear b7
        go_wp2_with (refine wpList_load_mid rfl 36 _ rfl b (off + k * 7) (by rfl) _ _ HCL.out Try.underlying36 rfl infoO7 ?_)
        go_ret
        exact ⟨rfl, HF.out⟩
      · have d200 : (k : Int) < 200 := by omega
        have b7 := (Below.refl wr.heap.size wr).alloc (Nat.le_refl _) (.cells #[.int .u8 (ok : Int), .string oaa, .string obb, .slice opa L opc, .int .i64 on, .bool odn, .slice oka kn okc] 36)
        have HS7 : Hid (St (wr.alloc (.cells #[.int .u8 (ok : Int), .string oaa, .string obb, .slice opa L opc, .int .i64 on, .bool odn, .slice oka kn okc] 36)) B (.pointer none) (.pointer none) k) := HS.out.step b7
        have HB7 : Hid (Below B w2 (wr.alloc (.cells #[.int .u8 (ok : Int), .string oaa, .string obb, .slice opa L opc, .int .i64 on, .bool odn, .slice oka kn okc] 36))) := HBE.out.trans (b7.mono HS.out.lt)
        have HV7 : Hid (VA (wr.alloc (.cells #[.int .u8 (ok : Int), .string oaa, .string obb, .slice opa L opc, .int .i64 on, .bool odn, .slice oka kn okc] 36)) wr.heap.size [.int .u8 (ok : Int), .string oaa, .string obb, .slice opa L opc, .int .i64 on, .bool odn, .slice oka kn okc] 36) := va_new wr _ _
        clear b7
        go_upto_region 12 with (refine wpList_load_mid rfl 36 _ rfl b (off + k * 7) (by rfl) _ _ HCL.out Try.underlying36 rfl infoO7 ?_)
        generalize hw7 : wr.alloc (.cells #[.int .u8 (ok : Int), .string oaa, .string obb, .slice opa L opc, .int .i64 on, .bool odn, .slice oka kn okc] 36) = w7 at *
        generalize wr.heap.size = bo at *
        clear hw7
        have HV7c : Hid (∀ j u, ([.int .u8 (ok : Int), .string oaa, .string obb, .slice opa L opc, .int .i64 on, .bool odn, .slice oka kn okc] : List Value)[j]? = some u → w7.cell? ⟨bo, 0 + j, none⟩ = some u) := fun j u hj => by rw [Nat.zero_add]; exact HV7.out.cell j hj
        go_wp2_with (refine wpList_load_mid rfl 36 _ rfl bo 0 (by rfl) _ _ HV7c.out Try.underlying36 rfl infoO7 ?_)
        refine (call_any w7 B k (.pointer none) (.pointer none) HS7.out (by omega) ok hk256 oaa obb (by omega) (by omega) opa L opc on hnn.1 hnn.2 odn oka kn okc xs HXL.out e3 (fun w' h => HXP.out w' (HB7.out.trans h)) oks HKL.out hsz2 HKN.out (fun w' h => HXF.out w' (HB7.out.trans h)) HKB.out).mono ?_
        rintro e w8 ⟨rfl, s8, k8⟩
        have HS8 : Hid (St w8 B (.pointer none) (.pointer none) (k + 1)) := s8
        have HB8 : Hid (Below B w2 w8) := HB7.out.trans k8.bel
        have HV8 : Hid (VA w8 bo [.int .u8 (ok : Int), .string oaa, .string obb, .slice opa L opc, .int .i64 on, .bool odn, .slice oka kn okc] 36) := k8.op _ _ HV7.out
        have a8 := HV8.out.cell 1 (v := .string oaa) rfl
        clear s8 k8 HS7 HB7 HV7 HV7c
        go_wp2_with fail
        refine (looks_ok w8 B (k + 1) (.pointer none) (.pointer none) HS8.out oaa (by omega)).mono ?_
        rintro e w9 ⟨rfl, b9⟩
        have HS9 : Hid (St w9 B (.pointer none) (.pointer none) (k + 1)) := HS8.out.step b9
        have HB9 : Hid (Below B w2 w9) := HB8.out.trans (b9.mono HS8.out.lt)
        have HV9 : Hid (VA w9 bo [.int .u8 (ok : Int), .string oaa, .string obb, .slice opa L opc, .int .i64 on, .bool odn, .slice oka kn okc] 36) := HV8.out.step b9
        have a9 := HV9.out.cell 2 (v := .string obb) rfl
        clear b9 a8 HS8 HB8 HV8
        go_wp2_with fail
        refine (looks_ok w9 B (k + 1) (.pointer none) (.pointer none) HS9.out obb (by omega)).mono ?_
        rintro e w10 ⟨rfl, b10⟩
        have HS10 : Hid (St w10 B (.pointer none) (.pointer none) (k + 1)) := HS9.out.step b10
        have HB10 : Hid (Below B w2 w10) := HB9.out.trans (b10.mono HS9.out.lt)
        clear b10 a9 HS9 HB9 HV9
        go_wp2_with fail
        go_roundw
        case rel => exact ⟨k + 1, by omega, by omega, by simp, HS10.out, HB10.out⟩
        case measure => simp [intOf]; omega
    · obtain rfl : k = N := by omega
      go_wp2_with fail
      go_ret
      exact ⟨rfl, HALL.out wr HBE.out⟩
theorem plays_walk (n : Int) (v : Value) (os : List OpD) (w : World) (hb : Sl KO w v os) (hos : ∀ o ∈ os, OpIn w o ∧ OpSz 140737488351232 o) (hl : os.length ≤ 140737488351232) :
    Calls Try.prog 3 #[.int .i64 n, v] w fun e w' => e = .returned (.bool true) ∧ Below w.heap.size w w' := by
  by_cases h1 : n < 1
  · exact plays_low n v os w hb hos hl h1
  · by_cases h2 : 65536 < n
    · exact plays_high n v os w hb hos hl h2
    · exact plays_in n v os w hb hos hl (by omega) (by omega)
end Go.Proofs.Ytakgkpiicigihaa
