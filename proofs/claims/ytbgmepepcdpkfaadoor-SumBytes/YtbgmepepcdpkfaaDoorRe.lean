/- sum: the walk of SumBytes, given the document's Sha. -/
import Derived.Test.YtbgmepepcdpkfaaDoorRs
import Derived.Deep.RegionHeld3
namespace Go.Proofs.YtbgmepepcdpkfaaDoor
open Go.RowKit
set_option linter.unusedVariables false

theorem eq_items (xs : List Nat) (w : World) : ∀ is : List Nat, (∀ i ∈ is, i < xs.length) → (Op.eqItems 9999 5 1 (cl xs).toArray (cl xs).toArray is).run Tryd.prog w = .ok true w
  | [], _ => by simp [Op.eqItems, go_sem]
  | i :: is, h => by
    have hi := h i (by simp)
    have ih := eq_items xs w is (fun j hj => h j (by simp [hj]))
    have hg := cl_get xs i hi
    simp [Op.eqItems, go_sem, hg, ih]
theorem eq32 (xs : List Nat) (hx : xs.length = 32) (w : World) : (Op.equalIn 10000 23 (.agg (cl xs).toArray) (.agg (cl xs).toArray)).run Tryd.prog w = .ok true w := by
  obtain ⟨i, hi⟩ : ∃ i, Tryd.prog.info? 5 = some i := Option.isSome_iff_exists.1 (by kernel_rfl)
  rw [show (10000 : Nat) = 9999 + 1 from rfl, run_equalIn_array (P := Tryd.prog) w 9999 _ _ Tryd.underlying23 hi]
  have hc : Tryd.prog.cellsOf 5 = 1 := by kernel_rfl
  rw [hc]
  exact eq_items xs w _ (fun j hj => by have := List.mem_range.1 hj; omega)

set_option maxHeartbeats 4000000 in
set_option maxRecDepth 100000 in
theorem bytes_walk (hS : RSha) (v : Value) (bs xs : List Nat) (w : World) (T : Tb w) (h : Bs w v bs) (hl : bs.length ≤ 140737488351232) (hx : xs.length = 32) (hby : By xs) :
    Calls Tryd.prog 3 #[v, .agg (cl xs).toArray] w fun e w' => e = .returned (.bool true) ∧ Below w.heap.size w w' := by
  have D := (Below.refl w.heap.size w).alloc (Nat.le_refl _) (.cells (cl xs).toArray 23)
  have A := va_new w (cl xs) 23
  obtain ⟨L, hL⟩ : ∃ L, L = bs.length := ⟨_, rfl⟩
  have HL := (show Hid _ from hL)
  have HD := (show Hid _ from D)
  have HA := (show Hid _ from A)
  have HT := (show Hid _ from T)
  have HB := (show Hid _ from h)
  have HS := (show Hid _ from hS)
  have HX := (show Hid _ from hx)
  have HY := (show Hid _ from hby)
  have hw1 := T.lt
  rw [← hL] at hl
  clear D A T h hS hx hby hL
  go_enter Tryd.func3, Tryd.ntmps3
  go_wp2_with fail
  generalize w.alloc (.cells (cl xs).toArray 23) = w1 at *
  refine (awake_ok _ (HT.out.step HD.out (by omega))).mono ?_
  rintro e w2 ⟨rfl, b2⟩
  have D2 := (show Hid _ from HD.out.trans (b2.mono HD.out.size))
  have A2 := (show Hid _ from HA.out.step b2)
  clear b2 HD HA
  go_wp2_with fail
  refine (spare_ok _ bs _ (HB.out.step D2.out) (by have := HL.out; omega)).mono ?_
  rintro e w3 ⟨⟨g, cap, rfl, o3⟩, b3⟩
  have D3 := (show Hid _ from D2.out.trans (b3.mono D2.out.size))
  have A3 := (show Hid _ from A2.out.step b3)
  have F3 := (show Hid _ from o3.bs)
  have Q3 : Hid (Bs w3 (.slice (some ⟨g, 0, none⟩) bs.length cap) bs) := by
    have := o3.bs.cut bs.length (by simp)
    rw [List.take_left] at this
    exact this
  rw [← HL.out]
  rw [← HL.out] at F3 Q3
  clear o3 b3 D2 A2
  have u23 := Tryd.underlying23
  have i23 : (Tryd.prog.info? 23).map (·.size) = some (cl xs).length := info32.trans (by rw [cl_len, HX.out])
  have RG : Hid (∀ wr, VA wr w.heap.size (cl xs) 23 → wr.rangeAt w.heap.size 0 (cl xs)) := fun wr V j u hj => by rw [Nat.zero_add]; exact V.cell j hj
  go_upto_region 4 with fail
  have e1 := fun w => eq32 (sha bs) (sha_len _) w
  have e2 := fun w => eq32 (sha (xs ++ bs)) (sha_len _) w
  have T3 := (show Hid _ from HT.out.step D3.out.drew (by omega))
  refine wp_region_noPanic ?_
  refine wp_region_held_drew (S := fun w' => w'.rangeAt w.heap.size 0 (cl xs)) (by kernel_rfl) (RG.out _ A3.out.drew) (fun hHeld => ?_)
  refine wpAnyH_take (i := 0) (oi := { dst := some 14, op := Op.move (Operand.tmp 5), type := 22, pos := "law.go:22", after := #[], guard := none }) (v := .slice (some ⟨g, 0, none⟩) L cap) rfl (by kernel_rfl) (by kernel_rfl) (by kernel_rfl) (fun _ _ _ h => h) (Or.inl ⟨by rfl, ?_⟩) (by assumption) ?_
  · intro w hSw
    go_simp
  try simp only [Act.put, List.setIfInBounds_toArray, List.set_cons_zero, List.set_cons_succ]
  refine wpAnyH_take (i := 2) (oi := { dst := some 16, op := Op.move (Operand.tmp 0), type := 22, pos := "law.go:22", after := #[], guard := none }) (v := v) rfl (by kernel_rfl) (by kernel_rfl) (by kernel_rfl) (fun _ _ _ h => h) (Or.inl ⟨by rfl, ?_⟩) (by assumption) ?_
  · intro w hSw
    go_simp
  try simp only [Act.put, List.setIfInBounds_toArray, List.set_cons_zero, List.set_cons_succ]
  refine wpAnyH_ready (rs := [1]) (by kernel_rfl) (by simp) ?_
  refine AllReadyH.cons (o := { dst := some 15, op := Op.call { callee := Callee.value (Operand.func 9), args := #[Operand.tmp 14], argTypes := #[22] }, type := 27, pos := "law.go:22", after := #[{ on := 0, ground := Ground.data }], guard := none }) rfl (fun K hK => ?_) AllReadyH.nil
  go_simp
  refine (crc_ok _ bs _ Q3.out.drew).mono ?_
  rintro e wa ⟨rfl, rfl⟩
  go_wp2_with fail
  refine hK.out _ _ (RG.out _ A3.out.drew) (fun hHeld => ?_)
  clear hK K
  try simp only [Act.put, List.setIfInBounds_toArray, List.set_cons_zero, List.set_cons_succ]
  refine wpAnyH_ready (rs := [3]) (by kernel_rfl) (by simp) ?_
  refine AllReadyH.cons (o := { dst := some 17, op := Op.call { callee := Callee.value (Operand.func 10), args := #[Operand.tmp 16], argTypes := #[22] }, type := 27, pos := "law.go:22", after := #[{ on := 2, ground := Ground.data }, { on := 1, ground := Ground.chain }], guard := none }) rfl (fun K hK => ?_) AllReadyH.nil
  go_simp
  refine (rcrc_ok _ bs _ (HB.out.step D3.out).drew).mono ?_
  rintro e wb ⟨rfl, rfl⟩
  go_wp2_with fail
  refine hK.out _ _ (RG.out _ A3.out.drew) (fun hHeld => ?_)
  clear hK K
  try simp only [Act.put, List.setIfInBounds_toArray, List.set_cons_zero, List.set_cons_succ]
  refine wpAnyH_take (i := 4) (oi := { dst := some 18, op := Op.binOp BinOp.neq 27 (Operand.tmp 15) (Operand.tmp 17) 27, type := 4, pos := "law.go:22", after := #[{ on := 1, ground := Ground.data }, { on := 3, ground := Ground.data }], guard := none }) (v := .bool false) rfl (by kernel_rfl) (by kernel_rfl) (by kernel_rfl) (fun _ _ _ h => h) (Or.inl ⟨by rfl, ?_⟩) (by assumption) ?_
  · intro w hSw
    go_simp
  try simp only [Act.put, List.setIfInBounds_toArray, List.set_cons_zero, List.set_cons_succ]
  refine wpAnyH_take (i := 5) (oi := { dst := some 19, op := Op.move (Operand.tmp 18), type := 4, pos := "law.go:22", after := #[{ on := 4, ground := Ground.data }, { on := 3, ground := Ground.chain }], guard := none }) (v := .bool false) rfl (by kernel_rfl) (by kernel_rfl) (by kernel_rfl) (fun _ _ _ h => h) (Or.inl ⟨by rfl, ?_⟩) (by assumption) ?_
  · intro w hSw
    go_simp
  try simp only [Act.put, List.setIfInBounds_toArray, List.set_cons_zero, List.set_cons_succ]
  refine wpAnyH_take (i := 6) (oi := { dst := some 20, op := Op.move (Operand.tmp 5), type := 22, pos := "law.go:22", after := #[{ on := 5, ground := Ground.guard }], guard := some (5, false) }) (v := .slice (some ⟨g, 0, none⟩) L cap) rfl (by kernel_rfl) (by kernel_rfl) (by kernel_rfl) (fun _ _ _ h => h) (Or.inl ⟨by rfl, ?_⟩) (by assumption) ?_
  · intro w hSw
    go_simp
  try simp only [Act.put, List.setIfInBounds_toArray, List.set_cons_zero, List.set_cons_succ]
  refine wpAnyH_take (i := 8) (oi := { dst := some 22, op := Op.move (Operand.tmp 0), type := 22, pos := "law.go:22", after := #[{ on := 5, ground := Ground.guard }], guard := some (5, false) }) (v := v) rfl (by kernel_rfl) (by kernel_rfl) (by kernel_rfl) (fun _ _ _ h => h) (Or.inl ⟨by rfl, ?_⟩) (by assumption) ?_
  · intro w hSw
    go_simp
  try simp only [Act.put, List.setIfInBounds_toArray, List.set_cons_zero, List.set_cons_succ]
  refine wpAnyH_ready (rs := [7]) (by kernel_rfl) (by simp) ?_
  refine AllReadyH.cons (o := { dst := some 21, op := Op.call { callee := Callee.value (Operand.func 11), args := #[Operand.tmp 20], argTypes := #[22] }, type := 23, pos := "law.go:22", after := #[{ on := 6, ground := Ground.data }, { on := 5, ground := Ground.chain }, { on := 5, ground := Ground.guard }], guard := some (5, false) }) rfl (fun K hK => ?_) AllReadyH.nil
  go_simp
  refine (sha_ok _ bs _ Q3.out.drew (by have := HL.out; omega) T3.out).mono ?_
  rintro e wc ⟨rfl, bc⟩
  have Dc := (show Hid _ from D3.out.drew.trans (bc.mono D3.out.size))
  have Ac := (show Hid _ from A3.out.drew.step bc)
  have Qc := (show Hid _ from Q3.out.drew.step bc)
  have Fc := (show Hid _ from F3.out.drew.step bc)
  clear bc
  go_wp2_with fail
  refine hK.out _ _ (RG.out _ Ac.out) (fun hHeld => ?_)
  clear hK K
  try simp only [Act.put, List.setIfInBounds_toArray, List.set_cons_zero, List.set_cons_succ]
  refine wpAnyH_ready (rs := [9]) (by kernel_rfl) (by simp) ?_
  refine AllReadyH.cons (o := { dst := some 23, op := Op.call { callee := Callee.value (Operand.func 12), args := #[Operand.tmp 22], argTypes := #[22] }, type := 23, pos := "law.go:22", after := #[{ on := 8, ground := Ground.data }, { on := 7, ground := Ground.chain }, { on := 5, ground := Ground.guard }], guard := some (5, false) }) rfl (fun K hK => ?_) AllReadyH.nil
  go_simp
  refine (HS.out _ bs _ (HB.out.step Dc.out) (by have := HL.out; omega)).mono ?_
  rintro e wd ⟨rfl, bd⟩
  have Dd := (show Hid _ from Dc.out.trans (bd.mono Dc.out.size))
  have Ad := (show Hid _ from Ac.out.step bd)
  have Qd := (show Hid _ from Qc.out.step bd)
  have Fd := (show Hid _ from Fc.out.step bd)
  have Td := (show Hid _ from HT.out.step Dd.out (by omega))
  clear bd
  go_wp2_with fail
  refine hK.out _ _ (RG.out _ Ad.out) (fun hHeld => ?_)
  clear hK K
  try simp only [Act.put, List.setIfInBounds_toArray, List.set_cons_zero, List.set_cons_succ]
  refine wpAnyH_take (i := 10) (oi := { dst := some 24, op := Op.binOp BinOp.neq 23 (Operand.tmp 21) (Operand.tmp 23) 23, type := 4, pos := "law.go:22", after := #[{ on := 7, ground := Ground.data }, { on := 9, ground := Ground.data }, { on := 5, ground := Ground.guard }], guard := some (5, false) }) (v := .bool false) rfl (by kernel_rfl) (by kernel_rfl) (by kernel_rfl) (fun _ _ _ h => h) (Or.inl ⟨by rfl, ?_⟩) (by assumption) ?_
  · intro w hSw
    go_simp
  try simp only [Act.put, List.setIfInBounds_toArray, List.set_cons_zero, List.set_cons_succ]
  refine wpAnyH_take (i := 11) (oi := { dst := some 25, op := Op.pick (Operand.tmp 19) (Operand.const (Value.bool true)) (Operand.tmp 24), type := 4, pos := "law.go:22", after := #[{ on := 5, ground := Ground.data }, { on := 10, ground := Ground.data }], guard := none }) (v := .bool false) rfl (by kernel_rfl) (by kernel_rfl) (by kernel_rfl) (fun _ _ _ h => h) (Or.inl ⟨by rfl, ?_⟩) (by assumption) ?_
  · intro w hSw
    go_simp
  try simp only [Act.put, List.setIfInBounds_toArray, List.set_cons_zero, List.set_cons_succ]
  refine wpAnyH_take (i := 12) (oi := { dst := some 26, op := Op.move (Operand.tmp 25), type := 4, pos := "law.go:22", after := #[{ on := 11, ground := Ground.data }, { on := 9, ground := Ground.chain }], guard := none }) (v := .bool false) rfl (by kernel_rfl) (by kernel_rfl) (by kernel_rfl) (fun _ _ _ h => h) (Or.inl ⟨by rfl, ?_⟩) (by assumption) ?_
  · intro w hSw
    go_simp
  try simp only [Act.put, List.setIfInBounds_toArray, List.set_cons_zero, List.set_cons_succ]
  refine wpAnyH_take (i := 13) (oi := { dst := some 27, op := Op.load 23 (Operand.tmp 3), type := 23, pos := "law.go:22", after := #[{ on := 12, ground := Ground.guard }], guard := some (12, false) }) (v := .agg (cl xs).toArray) rfl (by kernel_rfl) (by kernel_rfl) (by kernel_rfl) (fun _ _ _ h => h) (yieldsIf_load_mid (by rfl) _ _ rfl _ _ rfl _ _ (fun _ h => h) u23 rfl i23) (by assumption) ?_
  try simp only [Act.put, List.setIfInBounds_toArray, List.set_cons_zero, List.set_cons_succ]
  refine wpAnyH_take (i := 14) (oi := { dst := some 28, op := Op.move (Operand.tmp 5), type := 22, pos := "law.go:22", after := #[{ on := 12, ground := Ground.guard }], guard := some (12, false) }) (v := .slice (some ⟨g, 0, none⟩) L cap) rfl (by kernel_rfl) (by kernel_rfl) (by kernel_rfl) (fun _ _ _ h => h) (Or.inl ⟨by rfl, ?_⟩) (by assumption) ?_
  · intro w hSw
    go_simp
  try simp only [Act.put, List.setIfInBounds_toArray, List.set_cons_zero, List.set_cons_succ]
  refine wpAnyH_take (i := 16) (oi := { dst := some 30, op := Op.load 23 (Operand.tmp 3), type := 23, pos := "law.go:22", after := #[{ on := 12, ground := Ground.guard }], guard := some (12, false) }) (v := .agg (cl xs).toArray) rfl (by kernel_rfl) (by kernel_rfl) (by kernel_rfl) (fun _ _ _ h => h) (yieldsIf_load_mid (by rfl) _ _ rfl _ _ rfl _ _ (fun _ h => h) u23 rfl i23) (by assumption) ?_
  try simp only [Act.put, List.setIfInBounds_toArray, List.set_cons_zero, List.set_cons_succ]
  refine wpAnyH_take (i := 17) (oi := { dst := some 31, op := Op.move (Operand.tmp 0), type := 22, pos := "law.go:22", after := #[{ on := 12, ground := Ground.guard }], guard := some (12, false) }) (v := v) rfl (by kernel_rfl) (by kernel_rfl) (by kernel_rfl) (fun _ _ _ h => h) (Or.inl ⟨by rfl, ?_⟩) (by assumption) ?_
  · intro w hSw
    go_simp
  try simp only [Act.put, List.setIfInBounds_toArray, List.set_cons_zero, List.set_cons_succ]
  refine wpAnyH_ready (rs := [15]) (by kernel_rfl) (by simp) ?_
  refine AllReadyH.cons (o := { dst := some 29, op := Op.call { callee := Callee.value (Operand.func 13), args := #[Operand.tmp 27, Operand.tmp 28], argTypes := #[23, 22] }, type := 23, pos := "law.go:22", after := #[{ on := 13, ground := Ground.data }, { on := 14, ground := Ground.data }, { on := 12, ground := Ground.chain }, { on := 12, ground := Ground.guard }], guard := some (12, false) }) rfl (fun K hK => ?_) AllReadyH.nil
  go_simp
  refine (chain_ok xs _ bs _ HX.out HY.out Qd.out (by have := HL.out; omega) Td.out).mono ?_
  rintro e we ⟨rfl, be⟩
  have De := (show Hid _ from Dd.out.trans (be.mono Dd.out.size))
  have Ae := (show Hid _ from Ad.out.step be)
  have Fe := (show Hid _ from Fd.out.step be)
  clear be
  go_wp2_with fail
  refine hK.out _ _ (RG.out _ Ae.out) (fun hHeld => ?_)
  clear hK K
  try simp only [Act.put, List.setIfInBounds_toArray, List.set_cons_zero, List.set_cons_succ]
  refine wpAnyH_ready (rs := [18]) (by kernel_rfl) (by simp) ?_
  refine AllReadyH.cons (o := { dst := some 32, op := Op.call { callee := Callee.value (Operand.func 14), args := #[Operand.tmp 30, Operand.tmp 31], argTypes := #[23, 22] }, type := 23, pos := "law.go:22", after := #[{ on := 16, ground := Ground.data }, { on := 17, ground := Ground.data }, { on := 15, ground := Ground.chain }, { on := 12, ground := Ground.guard }], guard := some (12, false) }) rfl (fun K hK => ?_) AllReadyH.nil
  go_simp
  refine (rchain_of HS.out xs _ bs _ HX.out HY.out (HB.out.step De.out) (by have := HL.out; omega)).mono ?_
  rintro e wf ⟨rfl, bf⟩
  have Df := (show Hid _ from De.out.trans (bf.mono De.out.size))
  have Af := (show Hid _ from Ae.out.step bf)
  have Ff := (show Hid _ from Fe.out.step bf)
  clear bf
  go_wp2_with fail
  refine hK.out _ _ (RG.out _ Af.out) (fun hHeld => ?_)
  clear hK K
  try simp only [Act.put, List.setIfInBounds_toArray, List.set_cons_zero, List.set_cons_succ]
  refine wpAnyH_take (i := 19) (oi := { dst := some 33, op := Op.binOp BinOp.neq 23 (Operand.tmp 29) (Operand.tmp 32) 23, type := 4, pos := "law.go:22", after := #[{ on := 15, ground := Ground.data }, { on := 18, ground := Ground.data }, { on := 12, ground := Ground.guard }], guard := some (12, false) }) (v := .bool false) rfl (by kernel_rfl) (by kernel_rfl) (by kernel_rfl) (fun _ _ _ h => h) (Or.inl ⟨by rfl, ?_⟩) (by assumption) ?_
  · intro w hSw
    go_simp
  try simp only [Act.put, List.setIfInBounds_toArray, List.set_cons_zero, List.set_cons_succ]
  refine wpAnyH_take (i := 20) (oi := { dst := some 34, op := Op.pick (Operand.tmp 26) (Operand.const (Value.bool true)) (Operand.tmp 33), type := 4, pos := "law.go:22", after := #[{ on := 12, ground := Ground.data }, { on := 19, ground := Ground.data }], guard := none }) (v := .bool false) rfl (by kernel_rfl) (by kernel_rfl) (by kernel_rfl) (fun _ _ _ h => h) (Or.inl ⟨by rfl, ?_⟩) (by assumption) ?_
  · intro w hSw
    go_simp
  try simp only [Act.put, List.setIfInBounds_toArray, List.set_cons_zero, List.set_cons_succ]
  refine wpAnyH_done (by kernel_rfl) ?_ _
  refine NoPanic.normal ?_
  go_wp2_with fail
  refine (kept_ok _ _ bs _ Ff.out (HB.out.step Df.out)).mono ?_
  rintro e wg ⟨rfl, bg⟩
  have DG := (show Hid _ from Df.out.trans (bg.mono Df.out.size))
  clear bg
  go_wp2_with fail
  go_ret
  exact ⟨rfl, DG.out⟩
end Go.Proofs.YtbgmepepcdpkfaaDoor
