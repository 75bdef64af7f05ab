/- the document's ledger: Is, Units; whole numbers in blocks. -/
import Derived.Test.YtlgcbbnnldlooaaDoorCtr
import Derived.Test.YtlgcbbnnldlooaaDoorM2
namespace Go.Proofs.YtlgcbbnnldlooaaDoor
open Go.RowKit Go.Maps
set_option linter.unusedVariables false

/-- rows of digits stay as they were -/
structure KeepU (w w' : World) : Prop where
  size : w.heap.size ≤ w'.heap.size
  block : ∀ (i : Nat) (cur : Array Value) (fr : Nat × Nat), w.heap[i]? = some (.cells cur 35 fr) → w'.heap[i]? = w.heap[i]?
theorem below_keepU {w w' : World} (h : Below w.heap.size w w') : KeepU w w' := ⟨h.size, fun i cur fr hi => h.block i (Array.getElem?_eq_some_iff.1 hi).1⟩
theorem Row.keepU {w w' : World} {v : Value} {ds : List Nat} (h : Row w v ds) (k : KeepU w w') : Row w' v ds := by
  obtain ⟨s, a, c, e, hc, f⟩ := h
  refine ⟨s, a, c, e, hc, fun h0 => ?_⟩
  obtain ⟨b, off, ea, ⟨hb, cur, fr, hk⟩, hx⟩ := f h0
  have eb := k.block b cur fr hk
  exact ⟨b, off, ea, ⟨Nat.lt_of_lt_of_le hb k.size, cur, fr, eb.trans hk⟩, fun j hj => (World.cell?_of_block (w := w) (w' := w') (a := ⟨b, off + j, none⟩) eb).trans (hx j hj)⟩
theorem Nm.keepU {w w' : World} {v : Value} {x : Nat} (h : Nm w v x) (k : KeepU w w') : Nm w' v x := by
  obtain ⟨ds, r, n, e⟩ := h
  exact ⟨ds, r.keepU k, n, e⟩
theorem In.keepU {w w' : World} {v : Value} {z : Int} (h : In w v z) (k : KeepU w w') : In w' v z := by
  obtain ⟨m, ⟨s, e, hn⟩, a, b⟩ := h
  exact ⟨m, ⟨s, e, hn.keepU k⟩, a, b⟩
/-- a block of another type has changed alone -/
theorem But.keepU {w w' : World} {p : Nat} {cs : List Value} {T : TypeId} (h : But (fun i => i = p) w w') (v : VA w p cs T) (hT : T ≠ 35) : KeepU w w' :=
  ⟨h.size, fun i cur fr hi => h.block i (Array.getElem?_eq_some_iff.1 hi).1 (fun e => by
    subst e
    rw [v.blk] at hi
    simp only [Option.some.injEq, Obj.cells.injEq] at hi
    exact hT hi.2.1)⟩
theorem rcur_ok (c : Int) (w : World) : Calls Tryd.prog 49 #[.int .i64 c] w fun e w' => e = .returned (.bool (wi c 0 3)) ∧ w' = w := by
  unfold wi
  by_cases h1 : 0 ≤ c
  · by_cases h2 : c < 4
    · rw [show decide (0 ≤ c ∧ c ≤ 3) = true by simp; omega]
      go_enter Tryd.func49, Tryd.ntmps49
      go_wp2_with fail
      go_ret
      exact ⟨rfl, rfl⟩
    · rw [show decide (0 ≤ c ∧ c ≤ 3) = false by simp; omega]
      go_enter Tryd.func49, Tryd.ntmps49
      go_wp2_with fail
      go_ret
      exact ⟨rfl, rfl⟩
  · rw [show decide (0 ≤ c ∧ c ≤ 3) = false by simp; omega]
    go_enter Tryd.func49, Tryd.ntmps49
    go_wp2_with fail
    go_ret
    exact ⟨rfl, rfl⟩
theorem is_ok (c u : Int) (w : World) : Calls Tryd.prog 30 #[.int .i64 c, .int .i64 u] w fun e w' => e = .returned (.bool (wi c 1 8 && wi u 0 3)) ∧ w' = w := by
  by_cases h1 : 1 ≤ c
  · by_cases h2 : c ≤ 8
    · rw [wi_yes h1 h2, Bool.true_and]
      go_enter Tryd.func30, Tryd.ntmps30
      go_wp2_with fail
      refine (rcur_ok _ _).mono ?_
      rintro e w1 ⟨rfl, hq⟩
      obtain rfl := hq.symm
      go_wp2_with fail
      go_ret
      exact ⟨rfl, rfl⟩
    · rw [wi_no (fun h => h2 h.2), Bool.false_and]
      go_enter Tryd.func30, Tryd.ntmps30
      go_wp2_with fail
      go_ret
      exact ⟨rfl, rfl⟩
  · rw [wi_no (fun h => h1 h.1), Bool.false_and]
    go_enter Tryd.func30, Tryd.ntmps30
    go_wp2_with fail
    go_ret
    exact ⟨rfl, rfl⟩
theorem infoIn : (Tryd.prog.info? 29).map (·.size) = some 2 := by kernel_rfl
theorem int_one (m : Bool) (a : Option Addr) (n c : Nat) : ∀ v ∈ ([.bool m, .slice a n c] : List Value), v.oneCell' = true := by
  intro v hv
  simp at hv
  rcases hv with rfl | rfl <;> rfl
set_option maxHeartbeats 2000000 in
set_option maxRecDepth 100000 in
theorem units_bad (h l s : Int) (w : World) (hb : Bad h l s) :
    Calls Tryd.prog 31 #[.agg #[.int .i64 h, .int .u64 l, .int .i64 s]] w fun e w' => e = .returned (.tuple #[.agg #[.bool false, .slice none 0 0], .bool false]) ∧ Below w.heap.size w w' := by
  have H := (show Hid _ from fun w => form_no h l s w hb)
  have V1 := (va_new w [.int .i64 h, .int .u64 l, .int .i64 s] 37).alloc (.cells #[.bool false, .slice none 0 0] 29)
  have V2 := va_new (w.alloc (.cells #[.int .i64 h, .int .u64 l, .int .i64 s] 37)) [.bool false, .slice none 0 0] 29
  rw [World.size_alloc] at V2
  have B0 := ((Below.refl w.heap.size w).alloc (Nat.le_refl _) (.cells #[.int .i64 h, .int .u64 l, .int .i64 s] 37)).alloc (by simp) (.cells #[.bool false, .slice none 0 0] 29)
  have HV2 := (show Hid _ from V2)
  have HB0 := (show Hid _ from B0)
  clear hb V1 V2 B0
  go_enter Tryd.func31, Tryd.ntmps31
  go_wp2_with fail
  refine (H.out _).mono ?_
  rintro e w1 ⟨rfl, b1⟩
  have HW2 := (show Hid _ from HV2.out.step b1)
  have HB1 := (show Hid _ from HB0.out.trans (b1.mono HB0.out.size))
  clear b1 HV2 HB0
  go_wp2_with (refine stA rfl 29 _ _ rfl (w.heap.size + 1) (by rfl) [.bool false, .slice none 0 0] [.bool false, .slice none 0 0] (by rfl) 29 HW2.out infoIn rfl (int_one _ _ _ _) ?_; intro w2 v2 u2)
  have hld := run_loadVar_row (P := Tryd.prog) w2 (w.heap.size + 1) 29 29 _ (0, 0) _ v2.blk Tryd.underlying29 rfl infoIn
  exact bodyPost_ret (v := .tuple #[.agg #[.bool false, .slice none 0 0], .bool false]) (by simp [results, Tryd.results31, asAddr, hld]) rfl ⟨rfl, u2.bel HB1.out (by omega)⟩
set_option maxHeartbeats 2000000 in
set_option maxRecDepth 100000 in
theorem units_long (c : Int) (s : Nat) (w : World) (ic : InR c) (hs : (s : Int) ≤ 18) (h12 : (12 : Int) < (s : Int)) :
    Calls Tryd.prog 31 #[dv c s] w fun e w' => e = .returned (.tuple #[.agg #[.bool false, .slice none 0 0], .bool false]) ∧ Below w.heap.size w w' := by
  have H := (show Hid _ from fun w => form_yes c s w ic hs)
  unfold dv
  generalize dhi c = h at *
  generalize dlo c = l at *
  have V1 := (va_new w [.int .i64 h, .int .u64 l, .int .i64 s] 37).alloc (.cells #[.bool false, .slice none 0 0] 29)
  have V2 := va_new (w.alloc (.cells #[.int .i64 h, .int .u64 l, .int .i64 s] 37)) [.bool false, .slice none 0 0] 29
  rw [World.size_alloc] at V2
  have B0 := ((Below.refl w.heap.size w).alloc (Nat.le_refl _) (.cells #[.int .i64 h, .int .u64 l, .int .i64 s] 37)).alloc (by simp) (.cells #[.bool false, .slice none 0 0] 29)
  have HV1 := (show Hid _ from V1)
  have HV2 := (show Hid _ from V2)
  have HB0 := (show Hid _ from B0)
  clear ic hs V1 V2 B0
  go_enter Tryd.func31, Tryd.ntmps31
  go_wp2_with fail
  refine (H.out _).mono ?_
  rintro e w1 ⟨rfl, b1⟩
  have HW2 := (show Hid _ from HV2.out.step b1)
  have c2 := (HV1.out.step b1).cell 2 (v := .int .i64 s) rfl
  have HB1 := (show Hid _ from HB0.out.trans (b1.mono HB0.out.size))
  clear b1 HV2 HB0 HV1
  go_wp2_with (refine stA rfl 29 _ _ rfl (w.heap.size + 1) (by rfl) [.bool false, .slice none 0 0] [.bool false, .slice none 0 0] (by rfl) 29 HW2.out infoIn rfl (int_one _ _ _ _) ?_; intro w2 v2 u2)
  have hld := run_loadVar_row (P := Tryd.prog) w2 (w.heap.size + 1) 29 29 _ (0, 0) _ v2.blk Tryd.underlying29 rfl infoIn
  exact bodyPost_ret (v := .tuple #[.agg #[.bool false, .slice none 0 0], .bool false]) (by simp [results, Tryd.results31, asAddr, hld]) rfl ⟨rfl, u2.bel HB1.out (by omega)⟩
set_option maxHeartbeats 4000000 in
set_option maxRecDepth 100000 in
theorem units_ok (c : Int) (s : Nat) (w : World) (ic : InR c) (h12 : (s : Int) ≤ 12) :
    Calls Tryd.prog 31 #[dv c s] w fun e w' => (∃ m a n k, e = .returned (.tuple #[.agg #[.bool m, .slice a n k], .bool (!(far c s M20))]) ∧ In w' (.agg #[.bool m, .slice a n k]) (c * (10 : Int) ^ (12 - s))) ∧ Below w.heap.size w w' := by
  have H := (show Hid _ from fun w => form_yes c s w ic (by omega))
  have HAt := (show Hid _ from fun w => at_ok c s 12 w ic h12 (by decide))
  have HZ : Hid (((12 : Int) - (s : Int)).toNat = 12 - s) := (show _ = _ by omega)
  have hcmp : decide (cmpN (c * (10 : Int) ^ (12 - s)).natAbs (10 ^ 32) ≤ 0) = !(far c s M20) := by
    have hp : (1 : Int) ≤ (10 : Int) ^ (12 - s) := p10_1 _
    have hsp := pow12_split (n := s) (by omega)
    have hm : M20 * (10 : Int) ^ s * (10 : Int) ^ (12 - s) = 100000000000000000000000000000000 := by rw [Int.mul_assoc, hsp]; decide
    have key : far c s M20 = decide (100000000000000000000000000000000 < c * (10 : Int) ^ (12 - s) ∨ c * (10 : Int) ^ (12 - s) < -100000000000000000000000000000000) := by
      unfold far
      refine decide_eq_decide.2 ?_
      rw [← hm]
      constructor
      · rintro (h | h)
        · exact Or.inl (Int.mul_lt_mul_of_pos_right h (Int.lt_of_lt_of_le (by decide : (0 : Int) < 1) hp))
        · exact Or.inr (by have := Int.mul_lt_mul_of_pos_right h (Int.lt_of_lt_of_le (by decide : (0 : Int) < 1) hp); rw [Int.neg_mul] at this; exact this)
      · rintro (h | h)
        · exact Or.inl (Int.lt_of_mul_lt_mul_right h (Int.le_trans (by decide : (0 : Int) ≤ 1) hp))
        · exact Or.inr (Int.lt_of_mul_lt_mul_right (by rw [Int.neg_mul]; exact h) (Int.le_trans (by decide : (0 : Int) ≤ 1) hp))
    rw [key]
    generalize c * (10 : Int) ^ (12 - s) = z at *
    rw [← decide_not]
    refine decide_eq_decide.2 ?_
    unfold cmpN
    split <;> (try split) <;> omega
  have HCM := (show Hid _ from hcmp)
  unfold dv
  have V1 := (va_new w [.int .i64 (dhi c), .int .u64 (dlo c), .int .i64 s] 37).alloc (.cells #[.bool false, .slice none 0 0] 29)
  have V2 := va_new (w.alloc (.cells #[.int .i64 (dhi c), .int .u64 (dlo c), .int .i64 s] 37)) [.bool false, .slice none 0 0] 29
  rw [World.size_alloc] at V2
  have B0 := ((Below.refl w.heap.size w).alloc (Nat.le_refl _) (.cells #[.int .i64 (dhi c), .int .u64 (dlo c), .int .i64 s] 37)).alloc (by simp) (.cells #[.bool false, .slice none 0 0] 29)
  have HV1 := (show Hid _ from V1)
  have HV2 := (show Hid _ from V2)
  have HB0 := (show Hid _ from B0)
  have nl : ¬ (12 : Int) < (s : Int) := by omega
  clear ic V1 V2 B0 hcmp
  go_enter Tryd.func31, Tryd.ntmps31
  go_wp2_with fail
  refine (H.out _).mono ?_
  rintro e w1 ⟨rfl, b1⟩
  have HW2 := (show Hid _ from HV2.out.step b1)
  have V1 := HV1.out.step b1
  have c0 := V1.cell 0 (v := .int .i64 (dhi c)) rfl
  have c1 := V1.cell 1 (v := .int .u64 (dlo c)) rfl
  have c2 := V1.cell 2 (v := .int .i64 s) rfl
  have HB1 := (show Hid _ from HB0.out.trans (b1.mono HB0.out.size))
  clear b1 HV2 HB0 HV1 V1
  go_wp2_with fail
  refine (HAt.out _).mono ?_
  rintro e w2 ⟨⟨r, rfl, i2⟩, b2⟩
  rw [HZ.out] at i2
  obtain ⟨m, a, n, k, rfl, hn, hp, hq⟩ := i2.form
  have HW3 := (show Hid _ from HW2.out.step b2)
  have HI2 : Hid (In w2 (.agg #[.bool m, .slice a n k]) (c * (10 : Int) ^ (12 - s))) := i2
  have HN2 := (show Hid _ from hn)
  have HB2 := (show Hid _ from HB1.out.trans (b2.mono HB1.out.size))
  clear b2 i2 hn hp hq c0 c1 c2 HW2 HB1
  go_upto_region 4 with fail
  have BA := (Below.refl w2.heap.size w2).alloc (Nat.le_refl _) (.cells #[.bool m, .slice a n k] 29)
  have V4 : VA (w2.alloc (.cells #[.bool m, .slice a n k] 29)) w2.heap.size [.bool m, .slice a n k] 29 := va_new w2 [.bool m, .slice a n k] 29
  have HR4 := (show Hid _ from HW3.out.step BA)
  have HI4 := (show Hid _ from HI2.out.step BA)
  have HN4 := (show Hid _ from HN2.out.step BA)
  have HB4 := (show Hid _ from HB2.out.trans (BA.mono HB2.out.size))
  have HLT : Hid (w.heap.size + 1 < w2.heap.size) := HW3.out.lt
  clear BA HI2 HN2 HB2 HW3
  generalize w2.heap.size = q4 at *
  generalize w2.alloc (.cells #[.bool m, .slice a n k] 29) = w3 at *
  have HV4 := (show Hid _ from V4)
  refine wp_region_noPanic ?_
  refine wp_region_held_drew (S := fun w' => VA w' q4 [.bool m, .slice a n k] 29) (by kernel_rfl) V4.drew (fun hHeld => ?_)
  clear V4
  refine takeD 0 16 (.agg #[.bool m, .slice a n k]) (by exact rfl) rfl (by kernel_rfl) (by kernel_rfl) (by kernel_rfl) (fun _ _ _ h => h) (Or.inl ⟨by rfl, ?_⟩) (by assumption) ?_
  · intro wq hS
    have e0 := hS.cell 0 (v := .bool m) rfl
    have e1 := hS.cell 1 (v := .slice a n k) rfl
    go_simp
  try simp only [Act.put, List.setIfInBounds_toArray, List.set_cons_zero, List.set_cons_succ]
  refine takeD 1 17 (.pointer (some ⟨q4, 1, none⟩)) (by exact rfl) rfl (by kernel_rfl) (by kernel_rfl) (by kernel_rfl) (fun _ _ _ h => h) (Or.inl ⟨by rfl, ?_⟩) (by assumption) ?_
  · intro wq hS
    go_simp
  try simp only [Act.put, List.setIfInBounds_toArray, List.set_cons_zero, List.set_cons_succ]
  refine takeD 2 18 (.slice a n k) (by exact rfl) rfl (by kernel_rfl) (by kernel_rfl) (by kernel_rfl) (fun _ _ _ h => h) (Or.inl ⟨by rfl, ?_⟩) (by assumption) ?_
  · intro wq hS
    have e1 := hS.cell 1 (v := .slice a n k) rfl
    go_simp
  try simp only [Act.put, List.setIfInBounds_toArray, List.set_cons_zero, List.set_cons_succ]
  clear hHeld
  refine wpAnyH_ready (rs := [3]) (by kernel_rfl) (by simp) ?_
  refine AllReadyH.cons (by exact rfl) (fun K hK => ?_) AllReadyH.nil
  go_simp
  refine (ten_ok 32 _ (by decide)).mono ?_
  rintro e w5 ⟨⟨rt, rfl, n5⟩, b5⟩
  have b5 : Below w3.heap.size w3 w5 := ((Below.refl w3.heap.size w3).drew).trans b5
  have HT5 := (show Hid _ from n5)
  have HR5 := (show Hid _ from HR4.out.step b5)
  have HV5 := (show Hid _ from HV4.out.step b5)
  have HI5 := (show Hid _ from HI4.out.step b5)
  have HN5 := (show Hid _ from HN4.out.step b5)
  have HB5 := (show Hid _ from HB4.out.trans (b5.mono HB4.out.size))
  clear b5 n5 HR4 HV4 HI4 HN4 HB4
  go_wp2_with fail
  refine hK.out _ _ HV5.out (fun hHeld => ?_)
  clear hK K hHeld
  try simp only [Act.put, List.setIfInBounds_toArray, List.set_cons_zero, List.set_cons_succ]
  refine wpAnyH_ready (rs := [4]) (by kernel_rfl) (by simp) ?_
  refine AllReadyH.cons (by exact rfl) (fun K hK => ?_) AllReadyH.nil
  go_simp
  refine (compare_ok _ _ _ _ _ HN5.out HT5.out).mono ?_
  rintro e w6 ⟨rfl, b6⟩
  have HR6 := (show Hid _ from HR5.out.step b6)
  have HV6 := (show Hid _ from HV5.out.step b6)
  have HI6 := (show Hid _ from HI5.out.step b6)
  have HB6 := (show Hid _ from HB5.out.trans (b6.mono HB5.out.size))
  clear b6 HR5 HV5 HI5 HB5 HN5 HT5
  go_wp2_with fail
  refine hK.out _ _ HV6.out (fun hHeld => ?_)
  clear hK K
  try simp only [Act.put, List.setIfInBounds_toArray, List.set_cons_zero, List.set_cons_succ]
  refine takeD 5 21 (.bool (!(far c s M20))) (by exact rfl) rfl (by kernel_rfl) (by kernel_rfl) (by kernel_rfl) (fun _ _ _ h => h) (Or.inl ⟨by rfl, ?_⟩) (by assumption) ?_
  · intro wq hS
    have q := HCM.out
    go_simp
  try simp only [Act.put, List.setIfInBounds_toArray, List.set_cons_zero, List.set_cons_succ]
  clear hHeld
  refine wpAnyH_ready (rs := [6]) (by kernel_rfl) (by simp) ?_
  refine AllReadyH.cons (by exact rfl) (fun K hK => ?_) AllReadyH.nil
  refine stD (by rfl) (by rfl) 29 _ _ (by rfl) (w.heap.size + 1) (by rfl) [.bool false, .slice none 0 0] [.bool m, .slice a n k] (by rfl) 29 HR6.out infoIn rfl (int_one _ _ _ _) ?_
  intro w7 v7 u7
  have U7 := u7.but
  have HV7 := (show Hid _ from HV6.out.but U7 (fun (e : q4 = w.heap.size + 1) => by have := HLT.out; omega))
  have HI7 := (show Hid _ from HI6.out.keepU (U7.keepU HR6.out (by decide)))
  have HW7 := (show Hid _ from v7)
  have HB7 := (show Hid _ from u7.bel HB6.out (by omega))
  refine hK.out _ _ HV7.out (fun hHeld => ?_)
  clear hK K u7 U7 v7
  refine takeD 7 3 (.bool (!(far c s M20))) (by exact rfl) rfl (by kernel_rfl) (by kernel_rfl) (by kernel_rfl) (fun _ _ _ h => h) (Or.inl ⟨by rfl, ?_⟩) (by assumption) ?_
  · intro wq hS
    go_simp
  try simp only [Act.put, List.setIfInBounds_toArray, List.set_cons_zero, List.set_cons_succ]
  clear hHeld
  refine wpAnyH_done (by kernel_rfl) ?_ _
  refine NoPanic.normal ?_
  go_wp2_with fail
  have hld := run_loadVar_row (P := Tryd.prog) w7 (w.heap.size + 1) 29 29 _ (0, 0) _ HW7.out.blk Tryd.underlying29 rfl infoIn
  exact bodyPost_ret (v := .tuple #[.agg #[.bool m, .slice a n k], .bool (!(far c s M20))]) (by simp [results, Tryd.results31, asAddr, hld]) rfl ⟨⟨m, a, n, k, rfl, HI7.out⟩, HB7.out⟩
end Go.Proofs.YtlgcbbnnldlooaaDoor
