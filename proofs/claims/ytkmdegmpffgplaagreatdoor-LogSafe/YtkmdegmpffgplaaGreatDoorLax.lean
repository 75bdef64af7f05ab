/- sum: slices.Grow of nil, slices.Concat of two slices of bytes. -/
import Derived.Test.YtkmdegmpffgplaaGreatDoorLaw
import Derived.Lib.AppendZeros
namespace Go.Proofs.YtkmdegmpffgplaaGreatDoor.pk
open Go.RowKit
set_option linter.unusedVariables false

/-- append(nil, make([]byte, n)...) : a new row; cut to nothing it is the call's own -/
theorem appMk {w : World} {ops : Array Oper} {rest : List Oper} {o : Oper} {a : Act} {Q : Exit → Act → World → Prop} (hgd : o.guard = none) (s x : Operand)
    (ho : o.op = .call { callee := .builtin .append, args := #[s, x], argTypes := #[22, 3] })
    (n : Nat) (N : Int) (hs : a.eval s = .slice none 0 0) (hx : a.eval x = .int .i64 N) (hN : N = n) (h0 : 0 < n) (hl : n ≤ 140737488355328)
    (h : ∀ cap w', n ≤ cap → cap ≤ 9223372036854775807 → OwnB w' w.heap.size (.slice (some ⟨w.heap.size, 0, none⟩) 0 cap) [] → Below w.heap.size w w' → wpList Tryz.prog ops Q rest (a.put o.dst (.slice (some ⟨w.heap.size, 0, none⟩) n cap)) w') :
    wpList Tryz.prog ops Q (o :: rest) a w := by
  subst hN
  obtain ⟨i0, hi, hz0, hz1, hz2⟩ := info8_parts
  refine wpList_plain hgd fun K hK' => ?_
  have hrun := Go.Lib.run_append_nil_zeros (P := Tryz.prog) w 22 3 o.type 5 i0 (.int .u8 0) .i64 .i64 Tryz.underlying22 Tryz.underlying3 hi hz0 n h0 (by rw [hz1]; omega) (by omega) (by rw [hz2]; omega)
  have hge := grownCap_ge w n 0 5
  have hle := grownCap_le_maxLen w n 0 5 (by unfold maxLen; omega)
  unfold maxLen at hle
  unfold Oper.wp
  simp only [execOp, ho, resolve, invoke, builtin]
  simp [hrun, hs, hx, Result.andThen]
  refine hK' _ _ (h _ _ hge hle ?_ ?_)
  · refine ⟨By.nil, World.ownsRow_made w.drew _ _ (Nat.le_refl _) (by unfold maxLen; omega) ?_⟩
    simp [size_zeroCells]
    rw [show (Value.int IntKind.u8 0).cells.size = 1 from rfl]
    omega
  · exact ((Below.refl _ _).drew).alloc (Nat.le_refl _) _
set_option maxHeartbeats 1000000 in
set_option maxRecDepth 100000 in
theorem grow_ok (n : Nat) (w : World) (h0 : 0 < n) (hl : n ≤ 140737488355328) :
    Calls Tryz.prog 87 #[.slice none 0 0, .int .i64 n] w fun e w' => (∃ u, e = .returned u ∧ OwnB w' w.heap.size u []) ∧ Below w.heap.size w w' := by
  have d1 : ((n : Int) < 0) = False := by simp
  have d2 : (0 : Int) < (n : Int) := by omega
  go_enter Tryz.func87, Tryz.ntmps87
  go_wp2_with (at_builtin; refine appMk rfl _ _ rfl n _ (by rfl) (by rfl) rfl h0 hl ?_; intro cap w1 c1 c2 o1 b1)
  go_ret
  exact ⟨⟨_, rfl, o1⟩, b1⟩
set_option maxHeartbeats 1000000 in
set_option maxRecDepth 100000 in
theorem concat_ok (b off : Nat) (v1 v2 : Value) (xs ys : List Nat) (w : World) (c1 : w.cell? ⟨b, off, none⟩ = some v1) (c2 : w.cell? ⟨b, off + 1, none⟩ = some v2) (h1 : Bs w v1 xs) (h2 : Bs w v2 ys) (h0 : 0 < xs.length) (hl : xs.length + ys.length ≤ 140737488355328) :
    Calls Tryz.prog 59 #[.slice (some ⟨b, off, none⟩) 2 2] w fun e w' => (∃ u, e = .returned u ∧ OwnB w' w.heap.size u (xs ++ ys)) ∧ Below w.heap.size w w' := by
  obtain ⟨l1, hl1⟩ : ∃ l, l = xs.length := ⟨_, rfl⟩
  obtain ⟨l2, hl2⟩ : ∃ l, l = ys.length := ⟨_, rfl⟩
  obtain ⟨a1, k1, rfl, g1, g2⟩ : ∃ a c, v1 = .slice a l1 c ∧ l1 ≤ c ∧ c ≤ 9223372036854775807 := by obtain ⟨_, a, c, e, h1, h2, _⟩ := h1; exact ⟨a, c, by rw [hl1]; exact e, by rw [hl1]; exact h1, h2⟩
  obtain ⟨a2, k2, rfl, g3, g4⟩ : ∃ a c, v2 = .slice a l2 c ∧ l2 ≤ c ∧ c ≤ 9223372036854775807 := by obtain ⟨_, a, c, e, h1, h2, _⟩ := h2; exact ⟨a, c, by rw [hl2]; exact e, by rw [hl2]; exact h1, h2⟩
  have HX := (show Hid _ from h1)
  have HY := (show Hid _ from h2)
  have HL1 := (show Hid _ from hl1)
  have HL2 := (show Hid _ from hl2)
  have hb := World.block_lt_of_cell? w _ c1
  rw [← hl1] at h0 hl
  rw [← hl2] at hl
  clear h1 h2 hl1 hl2
  go_enter Tryz.func59, Tryz.ntmps59
  go_wp2_with fail
  go_loop [3, 11] (fun s i => (i = .int .i64 0 ∧ s = .int .i64 0) ∨ (i = .int .i64 1 ∧ s = .int .i64 l1) ∨ (i = .int .i64 2 ∧ s = .int .i64 ((l1 + l2 : Nat) : Int))) (fun _ i => 2 - (intOf i).toNat)
  case atStart => exact Or.inl ⟨rfl, rfl⟩
  case round =>
    rcases hrel with ⟨rfl, rfl⟩ | ⟨rfl, rfl⟩ | ⟨rfl, rfl⟩
    · have d1 : ((l1 : Int) < 0) = False := by simp
      go_wp2_with fail
      exact ⟨Or.inr (Or.inl ⟨rfl, rfl⟩), by simp [intOf]⟩
    · have d1 : ((l1 : Int) + (l2 : Int) < 0) = False := by simp; omega
      go_wp2_with fail
      exact ⟨Or.inr (Or.inr ⟨rfl, by go_num⟩), by simp [intOf]⟩
    · go_wp2_with fail
      refine (grow_ok (l1 + l2) _ (by omega) hl).mono ?_
      rintro e w2 ⟨⟨u, rfl, o2⟩, b2⟩
      have HO := (show Hid _ from o2)
      have HB := (show Hid _ from b2)
      clear o2 b2
      go_wp2_with fail
      go_loopw [6, 27] (fun s i wr => ((i = .int .i64 0 ∧ Hid (OwnB wr w.heap.size s [])) ∨ (i = .int .i64 1 ∧ Hid (OwnB wr w.heap.size s xs)) ∨ (i = .int .i64 2 ∧ Hid (OwnB wr w.heap.size s (xs ++ ys)))) ∧ Hid (Below w.heap.size w wr)) (fun _ i _ => 2 - (intOf i).toNat)
      case atStart => exact ⟨Or.inl ⟨rfl, HO⟩, HB⟩
      case round =>
        obtain ⟨hrel, BB⟩ := hrel
        have y1 := (BB.out.cell (p := ⟨b, off, none⟩) hb).trans c1
        have y2 := (BB.out.cell (p := ⟨b, off + 1, none⟩) hb).trans c2
        have lz := BB.out.size
        rcases hrel with ⟨rfl, O⟩ | ⟨rfl, O⟩ | ⟨rfl, O⟩
        · go_wp2_with (at_builtin; refine appB rfl _ _ rfl w.heap.size [] xs _ _ (by rfl) (by rfl) O.out (HX.out.step BB.out) lz (by have := HL1.out; simp; omega) ?_; intro v3 w3 o3 b3)
          exact ⟨⟨Or.inr (Or.inl ⟨rfl, o3⟩), BB.out.trans b3⟩, by simp [intOf]⟩
        · go_wp2_with (at_builtin; refine appB rfl _ _ rfl w.heap.size xs ys _ _ (by rfl) (by rfl) O.out (HY.out.step BB.out) lz (by have := HL1.out; have := HL2.out; omega) ?_; intro v3 w3 o3 b3)
          exact ⟨⟨Or.inr (Or.inr ⟨rfl, o3⟩), BB.out.trans b3⟩, by simp [intOf]⟩
        · go_wp2_with fail
          go_ret
          exact ⟨⟨_, rfl, O.out⟩, BB.out⟩
end Go.Proofs.YtkmdegmpffgplaaGreatDoor.pk
/- sum: the program's Chain. -/
namespace Go.Proofs.YtkmdegmpffgplaaGreatDoor.pk
open Go.RowKit
set_option linter.unusedVariables false

set_option maxHeartbeats 1000000 in
set_option maxRecDepth 100000 in
theorem chain_ok (xs : List Nat) (v : Value) (bs : List Nat) (w : World) (hx : xs.length = 32) (hby : By xs) (h : Bs w v bs) (hl : bs.length ≤ 140737488355296) (T : Tb w) :
    Calls Tryz.prog 29 #[.agg (cl xs).toArray, v] w fun e w' => e = .returned (.agg (cl (sha (xs ++ bs))).toArray) ∧ Below w.heap.size w w' := by
  have D := ((Below.refl w.heap.size w).alloc (Nat.le_refl _) (.cells (cl xs).toArray 70)).alloc (by simp) (.cells [Value.int .u8 0, Value.int .u8 0, Value.int .u8 0, Value.int .u8 0, Value.int .u8 0, Value.int .u8 0, Value.int .u8 0, Value.int .u8 0, Value.int .u8 0, Value.int .u8 0, Value.int .u8 0, Value.int .u8 0, Value.int .u8 0, Value.int .u8 0, Value.int .u8 0, Value.int .u8 0, Value.int .u8 0, Value.int .u8 0, Value.int .u8 0, Value.int .u8 0, Value.int .u8 0, Value.int .u8 0, Value.int .u8 0, Value.int .u8 0, Value.int .u8 0, Value.int .u8 0, Value.int .u8 0, Value.int .u8 0, Value.int .u8 0, Value.int .u8 0, Value.int .u8 0, Value.int .u8 0].toArray 70)
  have A := (va_new w (cl xs) 70).alloc (.cells [Value.int .u8 0, Value.int .u8 0, Value.int .u8 0, Value.int .u8 0, Value.int .u8 0, Value.int .u8 0, Value.int .u8 0, Value.int .u8 0, Value.int .u8 0, Value.int .u8 0, Value.int .u8 0, Value.int .u8 0, Value.int .u8 0, Value.int .u8 0, Value.int .u8 0, Value.int .u8 0, Value.int .u8 0, Value.int .u8 0, Value.int .u8 0, Value.int .u8 0, Value.int .u8 0, Value.int .u8 0, Value.int .u8 0, Value.int .u8 0, Value.int .u8 0, Value.int .u8 0, Value.int .u8 0, Value.int .u8 0, Value.int .u8 0, Value.int .u8 0, Value.int .u8 0, Value.int .u8 0].toArray 70)
  have B := va_new (w.alloc (.cells (cl xs).toArray 70)) ([Value.int .u8 0, Value.int .u8 0, Value.int .u8 0, Value.int .u8 0, Value.int .u8 0, Value.int .u8 0, Value.int .u8 0, Value.int .u8 0, Value.int .u8 0, Value.int .u8 0, Value.int .u8 0, Value.int .u8 0, Value.int .u8 0, Value.int .u8 0, Value.int .u8 0, Value.int .u8 0, Value.int .u8 0, Value.int .u8 0, Value.int .u8 0, Value.int .u8 0, Value.int .u8 0, Value.int .u8 0, Value.int .u8 0, Value.int .u8 0, Value.int .u8 0, Value.int .u8 0, Value.int .u8 0, Value.int .u8 0, Value.int .u8 0, Value.int .u8 0, Value.int .u8 0, Value.int .u8 0]) 70
  rw [World.size_alloc] at B
  obtain ⟨va, vl, vc, rfl⟩ : ∃ a n c, v = .slice a n c := by obtain ⟨_, a, c, e, _⟩ := h; exact ⟨a, _, c, e⟩
  have hw1 := T.lt
  have HD := (show Hid _ from D)
  have HA := (show Hid _ from A)
  have HBB := (show Hid _ from B)
  have HV := (show Hid _ from h)
  have HT := (show Hid _ from T)
  have HY := (show Hid _ from hby)
  have HX := (show Hid _ from hx)
  clear D A B h hby hx T
  go_enter Tryz.func29, Tryz.ntmps29
  go_upto_region 1 with fail
  generalize (w.alloc (.cells (cl xs).toArray 70)).alloc (.cells [Value.int .u8 0, Value.int .u8 0, Value.int .u8 0, Value.int .u8 0, Value.int .u8 0, Value.int .u8 0, Value.int .u8 0, Value.int .u8 0, Value.int .u8 0, Value.int .u8 0, Value.int .u8 0, Value.int .u8 0, Value.int .u8 0, Value.int .u8 0, Value.int .u8 0, Value.int .u8 0, Value.int .u8 0, Value.int .u8 0, Value.int .u8 0, Value.int .u8 0, Value.int .u8 0, Value.int .u8 0, Value.int .u8 0, Value.int .u8 0, Value.int .u8 0, Value.int .u8 0, Value.int .u8 0, Value.int .u8 0, Value.int .u8 0, Value.int .u8 0, Value.int .u8 0, Value.int .u8 0].toArray 70) = w1 at *
  have l1 := HBB.out.lt
  have D2 := (Below.refl w1.heap.size w1).alloc (Nat.le_refl _) (.cells #[.slice (some ⟨w.heap.size, 0, none⟩) 32 32, .slice va vl vc] 22)
  have V2 : VA (w1.alloc (.cells #[.slice (some ⟨w.heap.size, 0, none⟩) 32 32, .slice va vl vc] 22)) w1.heap.size [.slice (some ⟨w.heap.size, 0, none⟩) 32 32, .slice va vl vc] 22 := va_new w1 _ _
  have c1 := V2.cell 0 rfl
  have c2 := V2.cell 1 rfl
  have X2 : Hid (Bs (w1.alloc (.cells #[.slice (some ⟨w.heap.size, 0, none⟩) 32 32, .slice va vl vc] 22)) (.slice (some ⟨w.heap.size, 0, none⟩) 32 32) xs) := (HA.out.step D2).bs HX.out (by omega) HY.out
  have Y2 := (show Hid _ from HV.out.step (HD.out.trans (D2.mono HD.out.size)))
  have HD2 := (show Hid _ from D2)
  have HC := (show Hid (_ ∧ _) from ⟨c1, c2⟩)
  clear D2 V2 c1 c2
  go_wp2_with fail
  generalize w1.alloc (.cells #[.slice (some ⟨w.heap.size, 0, none⟩) 32 32, .slice va vl vc] 22) = w2 at *
  refine (concat_ok _ 0 _ _ xs bs _ HC.out.1 HC.out.2 X2.out Y2.out (by rw [HX.out]; omega) (by rw [HX.out]; omega)).mono ?_
  rintro e w3 ⟨⟨u, rfl, o3⟩, b3⟩
  have D3 := (show Hid _ from HD2.out.trans (b3.mono HD2.out.size))
  have O3 := (show Hid _ from o3.bs)
  clear o3 b3 X2 Y2 HD2 HC
  go_wp2_with fail
  refine (sha_ok _ _ _ O3.out (by rw [List.length_append, HX.out]; omega) (HT.out.step (HD.out.trans (D3.out.mono HD.out.size)) (by omega))).mono ?_
  rintro e w4 ⟨rfl, b4⟩
  have D4 := (show Hid _ from D3.out.trans (b4.mono D3.out.size))
  have B4 := (show Hid _ from HBB.out.step D4.out)
  have HSL := (show Hid _ from sha_cl (xs ++ bs))
  clear b4 D3 O3
  go_wp2_with (refine stA rfl 70 _ _ rfl (w.heap.size + 1) (by rfl) _ (cl (sha (xs ++ bs))) (by rfl) _ B4.out (info32.trans (by rw [HSL.out])) (by rw [HSL.out]; rfl) (fun u hu => cl_one hu) ?_; intro w5 R5 U5)
  refine bodyPost_ret (v := .agg (cl (sha (xs ++ bs))).toArray) ?_ rfl ⟨rfl, U5.bel (HD.out.trans (D4.out.mono HD.out.size)) (by omega)⟩
  have hld := run_loadVar_row (P := Tryz.prog) w5 (w.heap.size + 1) 70 70 _ (0, 0) _ R5.blk Tryz.underlying70 rfl (info32.trans (by rw [List.size_toArray, HSL.out]))
  simp [results, Tryz.results29, asAddr, hld, Act.put]
end Go.Proofs.YtkmdegmpffgplaaGreatDoor.pk
