/- sum: the contract of Crc; Twin. -/
import Derived.Test.YtkmdegmpffgplaaGreatDoorLax
import Derived.Lib.AppendZeros
namespace Go.Proofs.YtkmdegmpffgplaaGreatDoor.pk
open Go.RowKit
set_option linter.unusedVariables false

theorem and_one32 (y : Nat) (h : y < 4294967296) : bits .and .u32 (y : Int) 1 = ((y % 2 : Nat) : Int) := by
  have := u32_and_nat y 1 h (by omega)
  rw [Nat.and_one_is_mod] at this
  exact this
set_option maxHeartbeats 1000000 in
set_option maxRecDepth 100000 in
theorem crc_ok (v : Value) (bs : List Nat) (w : World) (h : Bs w v bs) :
    Calls Tryz.prog 109 #[v] w fun e w' => e = .returned (.int .u32 (crc bs)) ∧ w' = w := by
  obtain ⟨hby, a, c, rfl, hlc, hc9, hno, hx⟩ := h
  have HX := (show Hid _ from hx)
  have HY := (show Hid _ from hby)
  clear hx hby hno
  obtain ⟨L, hL⟩ : ∃ L, L = bs.length := ⟨_, rfl⟩
  have HL : Hid (L = bs.length) := hL
  rw [← hL] at hlc ⊢
  clear hL
  go_enter Tryz.func109, Tryz.ntmps109
  go_wp2_with fail
  go_loop [3, 9] (fun s i => ∃ k x : Nat, k ≤ L ∧ i = .int .i64 k ∧ s = .int .u32 x ∧ x < 4294967296 ∧ Hid (x = crcF 4294967295 (bs.take k))) (fun _ i => L - (intOf i).toNat)
  case atStart => exact ⟨0, 4294967295, by omega, rfl, rfl, by omega, rfl⟩
  case round =>
    obtain ⟨k, x, hk, rfl, rfl, hx64, hval⟩ := hrel
    by_cases hkl : k = L
    · subst hkl
      have hxor := u32_xor_nat x 4294967295 hx64 (by omega)
      rw [show ((4294967295 : Nat) : Int) = 4294967295 from rfl] at hxor
      go_wp2_with fail
      go_ret
      refine ⟨?_, rfl⟩
      have := hval.out
      rw [List.take_of_length_le (by have := HL.out; omega)] at this
      rw [this]
      rfl
    have hk' : k < L := by omega
    obtain ⟨b, off, rfl, hb, hc⟩ := HX.out (by have := HL.out; omega)
    have hcell := hc k (by have := HL.out; omega)
    unfold bt at hcell
    have hbt := bt_bd HY.out k
    unfold bt at hbt
    obtain ⟨q, hq⟩ : ∃ q, q = bs.getD k 0 := ⟨_, rfl⟩
    have HQ : Hid (q = bs.getD k 0) := hq
    rw [← hq] at hcell hbt
    clear hq hc HX
    have hxor := u32_xor_nat x q hx64 (by omega)
    have hlt := (show Hid _ from x32 (a := x) (b := q) hx64 (by omega))
    go_wp2_with fail
    go_loop [3, 17] (fun s i => ∃ j y : Nat, j ≤ 8 ∧ i = .int .i64 j ∧ s = .int .u32 y ∧ y < 4294967296 ∧ Hid (y = sts j (x ^^^ q))) (fun _ i => 8 - (intOf i).toNat)
    case atStart => exact ⟨0, x ^^^ q, by omega, rfl, rfl, hlt.out, rfl⟩
    case round =>
      clear hxor
      obtain ⟨j, y, hj, rfl, rfl, hy64, hyv⟩ := hrel
      by_cases hj8 : j = 8
      · subst hj8
        rw [show ((8 : Nat) : Int) = 8 from rfl]
        go_wp2_with fail
        refine ⟨⟨k + 1, y, by omega, by go_num, rfl, hy64, ?_⟩, by simp [intOf]; omega⟩
        show y = _
        rw [crcF_take _ _ _ (by have := HL.out; omega), ← hval.out, ← HQ.out, hyv.out]
        rfl
      have hj' : j < 8 := by omega
      have hand := and_one32 y hy64
      by_cases ho : y % 2 = 1
      · rw [ho, show ((1 : Nat) : Int) = 1 from rfl] at hand
        have hx2 := u32_xor_nat (y / 2) 3988292384 (by omega) (by omega)
        rw [show ((3988292384 : Nat) : Int) = 3988292384 from rfl, show ((y / 2 : Nat) : Int) = (y : Int) / 2 by omega] at hx2
        go_wp2_with fail
        refine ⟨⟨j + 1, (y / 2) ^^^ 3988292384, by omega, by go_num, rfl, x32 (by omega) (by omega), ?_⟩, by simp [intOf]; omega⟩
        show _ = st _
        rw [← hyv.out]
        unfold st
        rw [if_pos ho]
      · have ho' : y % 2 = 0 := by omega
        rw [ho', show ((0 : Nat) : Int) = 0 from rfl] at hand
        go_wp2_with fail
        refine ⟨⟨j + 1, y / 2, by omega, by go_num, by go_num, by omega, ?_⟩, by simp [intOf]; omega⟩
        show _ = st _
        rw [← hyv.out]
        unfold st
        rw [if_neg ho]
end Go.Proofs.YtkmdegmpffgplaaGreatDoor.pk
/- parts VII: slices.Concat of two slices of bytes (as in the texts of sum; the log). -/
namespace Go.Proofs.YtkmdegmpffgplaaGreatDoor
open Go.RowKit pk
set_option linter.unusedVariables false

/-- append(nil, make([]byte, n)...) : a new row; cut to nothing it is the call's own -/
theorem appMk {w : World} {ops : Array Oper} {rest : List Oper} {o : Oper} {a : Act} {Q : Exit → Act → World → Prop} (hgd : o.guard = none) (s x : Operand)
    (ho : o.op = .call { callee := .builtin .append, args := #[s, x], argTypes := #[22, 3] })
    (n : Nat) (N : Int) (hs : a.eval s = .slice none 0 0) (hx : a.eval x = .int .i64 N) (hN : N = n) (h0 : 0 < n) (hl : n ≤ 140737488355328)
    (h : ∀ cap w', n ≤ cap → cap ≤ 9223372036854775807 → OwnB w' w.heap.size (.slice (some ⟨w.heap.size, 0, none⟩) 0 cap) [] → Below w.heap.size w w' → wpList Tryz.prog ops Q rest (a.put o.dst (.slice (some ⟨w.heap.size, 0, none⟩) n cap)) w') :
    wpList Tryz.prog ops Q (o :: rest) a w := by
  subst hN
  obtain ⟨i0, hi, hz0, hz1, hz2⟩ := info8_parts
  refine wpList_plain hgd fun K hK' => ?_
  have hrun := Go.Lib.run_append_nil_zeros (P := Tryz.prog) w 22 3 o.type 5 i0 (.int .u8 0) .i64 .i64 Tryz.underlying22 Tryz.underlying3 hi hz0 n h0 (by rw [hz1]; omega) (by omega) (by rw [hz2]; omega)
  have hge := grownCap_ge w n 0 5
  have hle := grownCap_le_maxLen w n 0 5 (by unfold maxLen; omega)
  unfold maxLen at hle
  unfold Oper.wp
  simp only [execOp, ho, resolve, invoke, builtin]
  simp [hrun, hs, hx, Result.andThen]
  refine hK' _ _ (h _ _ hge hle ?_ ?_)
  · refine ⟨By.nil, World.ownsRow_made w.drew _ _ (Nat.le_refl _) (by unfold maxLen; omega) ?_⟩
    simp [size_zeroCells]
    rw [show (Value.int IntKind.u8 0).cells.size = 1 from rfl]
    omega
  · exact ((Below.refl _ _).drew).alloc (Nat.le_refl _) _
set_option maxHeartbeats 1000000 in
set_option maxRecDepth 100000 in
theorem grow_ok (n : Nat) (w : World) (h0 : 0 < n) (hl : n ≤ 140737488355328) :
    Calls Tryz.prog 87 #[.slice none 0 0, .int .i64 n] w fun e w' => (∃ u, e = .returned u ∧ OwnB w' w.heap.size u []) ∧ Below w.heap.size w w' := by
  have d1 : ((n : Int) < 0) = False := by simp
  have d2 : (0 : Int) < (n : Int) := by omega
  go_enter Tryz.func87, Tryz.ntmps87
  go_wp2_with (at_builtin; refine appMk rfl _ _ rfl n _ (by rfl) (by rfl) rfl h0 hl ?_; intro cap w1 c1 c2 o1 b1)
  go_ret
  exact ⟨⟨_, rfl, o1⟩, b1⟩
set_option maxHeartbeats 1000000 in
set_option maxRecDepth 100000 in
theorem concat_ok (b off : Nat) (v1 v2 : Value) (xs ys : List Nat) (w : World) (c1 : w.cell? ⟨b, off, none⟩ = some v1) (c2 : w.cell? ⟨b, off + 1, none⟩ = some v2) (h1 : Bs w v1 xs) (h2 : Bs w v2 ys) (h0 : 0 < xs.length) (hl : xs.length + ys.length ≤ 140737488355328) :
    Calls Tryz.prog 59 #[.slice (some ⟨b, off, none⟩) 2 2] w fun e w' => (∃ u, e = .returned u ∧ OwnB w' w.heap.size u (xs ++ ys)) ∧ Below w.heap.size w w' := by
  obtain ⟨l1, hl1⟩ : ∃ l, l = xs.length := ⟨_, rfl⟩
  obtain ⟨l2, hl2⟩ : ∃ l, l = ys.length := ⟨_, rfl⟩
  obtain ⟨a1, k1, rfl, g1, g2⟩ : ∃ a c, v1 = .slice a l1 c ∧ l1 ≤ c ∧ c ≤ 9223372036854775807 := by obtain ⟨_, a, c, e, h1, h2, _⟩ := h1; exact ⟨a, c, by rw [hl1]; exact e, by rw [hl1]; exact h1, h2⟩
  obtain ⟨a2, k2, rfl, g3, g4⟩ : ∃ a c, v2 = .slice a l2 c ∧ l2 ≤ c ∧ c ≤ 9223372036854775807 := by obtain ⟨_, a, c, e, h1, h2, _⟩ := h2; exact ⟨a, c, by rw [hl2]; exact e, by rw [hl2]; exact h1, h2⟩
  have HX := (show Hid _ from h1)
  have HY := (show Hid _ from h2)
  have HL1 := (show Hid _ from hl1)
  have HL2 := (show Hid _ from hl2)
  have hb := World.block_lt_of_cell? w _ c1
  rw [← hl1] at h0 hl
  rw [← hl2] at hl
  clear h1 h2 hl1 hl2
  go_enter Tryz.func59, Tryz.ntmps59
  go_wp2_with fail
  go_loop [3, 11] (fun s i => (i = .int .i64 0 ∧ s = .int .i64 0) ∨ (i = .int .i64 1 ∧ s = .int .i64 l1) ∨ (i = .int .i64 2 ∧ s = .int .i64 ((l1 + l2 : Nat) : Int))) (fun _ i => 2 - (intOf i).toNat)
  case atStart => exact Or.inl ⟨rfl, rfl⟩
  case round =>
    rcases hrel with ⟨rfl, rfl⟩ | ⟨rfl, rfl⟩ | ⟨rfl, rfl⟩
    · have d1 : ((l1 : Int) < 0) = False := by simp
      go_wp2_with fail
      exact ⟨Or.inr (Or.inl ⟨rfl, rfl⟩), by simp [intOf]⟩
    · have d1 : ((l1 : Int) + (l2 : Int) < 0) = False := by simp; omega
      go_wp2_with fail
      exact ⟨Or.inr (Or.inr ⟨rfl, by go_num⟩), by simp [intOf]⟩
    · go_wp2_with fail
      refine (grow_ok (l1 + l2) _ (by omega) hl).mono ?_
      rintro e w2 ⟨⟨u, rfl, o2⟩, b2⟩
      have HO := (show Hid _ from o2)
      have HB := (show Hid _ from b2)
      clear o2 b2
      go_wp2_with fail
      go_loopw [6, 27] (fun s i wr => ((i = .int .i64 0 ∧ Hid (OwnB wr w.heap.size s [])) ∨ (i = .int .i64 1 ∧ Hid (OwnB wr w.heap.size s xs)) ∨ (i = .int .i64 2 ∧ Hid (OwnB wr w.heap.size s (xs ++ ys)))) ∧ Hid (Below w.heap.size w wr)) (fun _ i _ => 2 - (intOf i).toNat)
      case atStart => exact ⟨Or.inl ⟨rfl, HO⟩, HB⟩
      case round =>
        obtain ⟨hrel, BB⟩ := hrel
        have y1 := (BB.out.cell (p := ⟨b, off, none⟩) hb).trans c1
        have y2 := (BB.out.cell (p := ⟨b, off + 1, none⟩) hb).trans c2
        have lz := BB.out.size
        rcases hrel with ⟨rfl, O⟩ | ⟨rfl, O⟩ | ⟨rfl, O⟩
        · go_wp2_with (at_builtin; refine appB rfl _ _ rfl w.heap.size [] xs _ _ (by rfl) (by rfl) O.out (HX.out.step BB.out) lz (by have := HL1.out; simp; omega) ?_; intro v3 w3 o3 b3)
          exact ⟨⟨Or.inr (Or.inl ⟨rfl, o3⟩), BB.out.trans b3⟩, by simp [intOf]⟩
        · go_wp2_with (at_builtin; refine appB rfl _ _ rfl w.heap.size xs ys _ _ (by rfl) (by rfl) O.out (HY.out.step BB.out) lz (by have := HL1.out; have := HL2.out; omega) ?_; intro v3 w3 o3 b3)
          exact ⟨⟨Or.inr (Or.inr ⟨rfl, o3⟩), BB.out.trans b3⟩, by simp [intOf]⟩
        · go_wp2_with fail
          go_ret
          exact ⟨⟨_, rfl, O.out⟩, BB.out⟩
end Go.Proofs.YtkmdegmpffgplaaGreatDoor
