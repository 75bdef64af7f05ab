/- sum: Sha of abc; awake; Twin. -/
import Derived.Test.YtkmdegmpffgplaaGreatDoorLbc
import Derived.Lib.SlBytesConst
import Derived.Lib.SmallJoins
import Derived.Laws.Bits64
namespace Go.Proofs.YtkmdegmpffgplaaGreatDoor.pk
open Go.RowKit
set_option linter.unusedVariables false

set_option maxRecDepth 100000 in
theorem sha_abc : (sha [97, 98, 99]).getD 0 0 = 186 ∧ (sha [97, 98, 99]).getD 31 0 = 173 := by decide +kernel
theorem bel_of_drew {B : Nat} {w w' : World} (h : Below B w.drew w') : Below B w w' := ⟨h.os, h.tape, h.output, h.size, h.block⟩
/-- a constant text's bytes, marked behind -/
theorem bs_mark (w : World) (bs : List Nat) (hby : By bs) (n : Nat) (hl : bs.length = n) (hn : n ≤ 1000) (T : TypeId) (fr : Nat × Nat) :
    Bs (w.alloc (.cells (cl bs).toArray T fr)) (.slice (some ⟨w.heap.size, 0, none⟩) n n) bs := by
  subst hl
  refine ⟨hby, _, _, rfl, Nat.le_refl _, by omega, fun h => (by cases h), fun h0 => ⟨w.heap.size, 0, rfl, by simp, fun k hk => ?_⟩⟩
  rw [Nat.zero_add, World.cell?_alloc_mark]
  simpa using cl_get bs k hk
theorem sha_len (bs : List Nat) : (sha bs).length = 32 := ob_len _ _
theorem twin_ok (v : Value) (bs : List Nat) (w : World) (h : Bs w v bs) (hl : bs.length ≤ 140737488355328) :
    Calls Tryz.prog 10 #[v] w fun e w' => (∃ u, e = .returned u ∧ OwnB w' w.heap.size u bs) ∧ Below w.heap.size w w' := by
  have hb := (Below.refl w.heap.size w).alloc (Nat.le_refl _) (.cells #[] 5)
  have H := (show Hid _ from h.step hb)
  have HO := (show Hid _ from own_made w)
  have HB := (show Hid _ from hb)
  clear h hb
  go_enter Tryz.func10, Tryz.ntmps10
  go_wp2_with (at_builtin; refine appB rfl _ _ rfl w.heap.size [] bs _ _ (by rfl) (by rfl) HO.out H.out (by simp) (by simpa using hl) ?_; intro v' w1 ho hb1)
  have HO1 := (show Hid _ from ho)
  have HB1 := (show Hid _ from hb1)
  clear ho hb1
  go_wp2_with fail
  go_ret
  exact ⟨⟨_, rfl, by simpa using HO1.out⟩, HB.out.trans HB1.out⟩
theorem OwnB.step {w w' : World} {B : Nat} {v : Value} {cs : List Nat} (h : OwnB w B v cs) (k : Below w.heap.size w w') : OwnB w' B v cs := by
  refine ⟨h.byte, h.own.1, ?_⟩
  rcases h.own.2 with h2 | ⟨g, cap, cur, e, hb, hg, r⟩
  · exact Or.inl h2
  · refine Or.inr ⟨g, cap, cur, e, hb, ?_, r⟩
    rw [k.block g ?_]
    · exact hg
    · rcases Nat.lt_or_ge g w.heap.size with hlt | hge
      · exact hlt
      · rw [Array.getElem?_eq_none hge] at hg; cases hg
/-- an owned row is nil, or lies at its block's head -/
theorem OwnB.head {w : World} {B : Nat} {v : Value} {cs : List Nat} (h : OwnB w B v cs) : (v = .slice none 0 0 ∧ cs = []) ∨ ∃ g cap, v = .slice (some ⟨g, 0, none⟩) cs.length cap ∧ B ≤ g ∧ g < w.heap.size ∧ cs.length ≤ cap ∧ cap ≤ 9223372036854775807 := by
  rcases h.own.2 with ⟨e, h0⟩ | ⟨g, cap, cur, e, hb, hg, hc, hm, r⟩
  · exact Or.inl ⟨e, List.eq_nil_of_length_eq_zero h0⟩
  · refine Or.inr ⟨g, cap, e, hb, ?_, hc, by unfold maxLen at hm; omega⟩
    rcases Nat.lt_or_ge g w.heap.size with hlt | hge
    · exact hlt
    · rw [Array.getElem?_eq_none hge] at hg; cases hg
theorem OwnB.set {w : World} {B g n cap : Nat} {cs : List Nat} (h : OwnB w B (.slice (some ⟨g, 0, none⟩) n cap) cs) (hl : cs.length = n) (j d : Nat) (hd : d < 256) :
    OwnB (w.setCell ⟨g, j, none⟩ (.int .u8 (d : Int))) B (.slice (some ⟨g, 0, none⟩) n cap) (cs.set j d) := by
  subst hl
  have := (World.ownsRow.stored h.own j (.int .u8 (d : Int))).1
  refine ⟨fun x hx => ?_, ?_⟩
  · rcases List.mem_or_eq_of_mem_set hx with hx | rfl
    · exact h.byte x hx
    · exact hd
  · rw [List.length_set]
    have e : cl (cs.set j d) = (cl cs).set j (.int .u8 (d : Int)) := by simp [cl, List.map_set]
    rw [e]
    exact this
theorem OwnB.free {w : World} {B g n cap : Nat} {cs : List Nat} (h : OwnB w B (.slice (some ⟨g, 0, none⟩) n cap) cs) (j : Nat) : w.frozen? ⟨g, j, none⟩ = false := by
  rcases h.own.2 with ⟨e, h0⟩ | ⟨g', cap', cur, e, hb, hg, r⟩
  · simp at e
  · simp only [Value.slice.injEq, Option.some.injEq, Addr.mk.injEq, and_true] at e
    obtain ⟨rfl, -, rfl⟩ := e
    simp [World.frozen?, hg]
theorem OwnB.cell {w : World} {B g n cap : Nat} {cs : List Nat} (h : OwnB w B (.slice (some ⟨g, 0, none⟩) n cap) cs) (hl : cs.length = n) (j : Nat) (hj : j < n) : w.cell? ⟨g, j, none⟩ = some (.int .u8 (bt cs j)) := by
  subst hl
  rw [h.own.cellAt j (by omega), cl_get cs j hj]
end Go.Proofs.YtkmdegmpffgplaaGreatDoor.pk
/- The document's sums: the contracts of Crc, Right and known. -/
namespace Go.Proofs.YtkmdegmpffgplaaGreatDoor.pk
open Go.RowKit
set_option linter.unusedVariables false

theorem st_step (c b : Nat) : st (c ^^^ b) = (if c % 2 + b % 2 = 1 then c / 2 ^^^ 3988292384 else c / 2) ^^^ (b / 2) := by
  unfold st
  rw [Nat.xor_div_two]
  have h : (c ^^^ b) % 2 = 1 ↔ c % 2 + b % 2 = 1 := by
    rw [Nat.xor_mod_two_eq_one]
    rcases Nat.mod_two_eq_zero_or_one c with h1 | h1 <;> rcases Nat.mod_two_eq_zero_or_one b with h2 | h2 <;> simp [h1, h2]
  by_cases h1 : c % 2 + b % 2 = 1
  · rw [if_pos (h.2 h1), if_pos h1, Nat.xor_assoc, Nat.xor_comm (b / 2), ← Nat.xor_assoc]
  · rw [if_neg (fun e => h1 (h.1 e)), if_neg h1]
set_option maxHeartbeats 1000000 in
set_option maxRecDepth 100000 in
theorem rcrc_ok (v : Value) (bs : List Nat) (w : World) (h : Bs w v bs) :
    Calls Tryz.prog 71 #[v] w fun e w' => e = .returned (.int .u32 (crc bs)) ∧ w' = w := by
  obtain ⟨hby, a, c, rfl, hlc, hc9, hno, hx⟩ := h
  have HX := (show Hid _ from hx)
  have HY := (show Hid _ from hby)
  clear hx hby hno
  obtain ⟨L, hL⟩ : ∃ L, L = bs.length := ⟨_, rfl⟩
  have HL : Hid (L = bs.length) := hL
  rw [← hL] at hlc ⊢
  clear hL
  go_enter Tryz.func71, Tryz.ntmps71
  go_wp2_with fail
  go_loop [3, 10] (fun s i => ∃ k x : Nat, k ≤ L ∧ i = .int .i64 k ∧ s = .int .u64 x ∧ x < 4294967296 ∧ Hid (x = crcF 4294967295 (bs.take k))) (fun _ i => L - (intOf i).toNat)
  case atStart => exact ⟨0, 4294967295, by omega, rfl, rfl, by omega, rfl⟩
  case round =>
    obtain ⟨k, x, hk, rfl, rfl, hx64, hval⟩ := hrel
    by_cases hkl : k = L
    · subst hkl
      go_wp2_with fail
      go_ret
      refine ⟨?_, rfl⟩
      have h1 := hval.out
      rw [List.take_of_length_le (by have := HL.out; omega)] at h1
      have h2 := xor_max x hx64
      have h3 := u32_xor_nat 4294967295 x (by omega) hx64
      rw [show IntKind.u32.max = ((4294967295 : Nat) : Int) from rfl, h3] at h2
      unfold crc
      rw [← h1, Nat.xor_comm, h2, show ((4294967295 - x : Nat) : Int) = 4294967295 - (x : Int) by omega]
      rfl
    have hk' : k < L := by omega
    obtain ⟨b, off, rfl, hb, hc⟩ := HX.out (by have := HL.out; omega)
    have hcell := hc k (by have := HL.out; omega)
    unfold bt at hcell
    have hbt := bt_bd HY.out k
    unfold bt at hbt
    obtain ⟨q, hq⟩ : ∃ q, q = bs.getD k 0 := ⟨_, rfl⟩
    have HQ : Hid (q = bs.getD k 0) := hq
    rw [← hq] at hcell hbt
    clear hq hc HX
    have d9 : decide ((k : Int) < (L : Int)) = true := decide_eq_true (by omega)
    go_wp2_with fail
    go_loop [3, 14] (fun s i => ∃ j y : Nat, j ≤ 8 ∧ i = .int .i64 j ∧ s = .int .u64 y ∧ y < 4294967296 ∧ Hid (sts j (x ^^^ q) = y ^^^ (q / 2 ^ j))) (fun _ i => 8 - (intOf i).toNat)
    case atStart => exact ⟨0, x, by omega, rfl, rfl, hx64, by show _ = _; simp [sts]⟩
    case round =>
      obtain ⟨j, y, hj, rfl, rfl, hy64, hyv⟩ := hrel
      by_cases hj8 : j = 8
      · subst hj8
        rw [show ((8 : Nat) : Int) = 8 from rfl]
        go_wp2_with fail
        refine ⟨⟨k + 1, y, by omega, by go_num, rfl, hy64, ?_⟩, by simp [intOf]; omega⟩
        show y = _
        rw [crcF_take _ _ _ (by have := HL.out; omega), ← hval.out, ← HQ.out]
        unfold crcB
        rw [hyv.out, show q / 2 ^ 8 = 0 by omega, Nat.xor_zero]
      have hj' : j < 8 := by omega
      obtain ⟨B, hB⟩ : ∃ B, B = q / 2 ^ j := ⟨_, rfl⟩
      have eB : (q : Int) / 2 ^ j = (B : Int) := by rw [hB, Int.natCast_ediv, Int.natCast_pow]; rfl
      have hB2 : B ≤ 255 := by rw [hB]; have := Nat.div_le_self q (2 ^ j); omega
      rw [← hB] at hyv
      have HN : Hid (q / 2 ^ (j + 1) = B / 2) := by show _ = _; rw [hB, Nat.div_div_eq_div_mul, Nat.pow_succ]
      have HS := (show Hid _ from st_step y B)
      clear hB
      have hx2 := bits_xor_u64_nat (y / 2) 3988292384 (by omega) (by omega)
      rw [show ((3988292384 : Nat) : Int) = 3988292384 from rfl, show ((y / 2 : Nat) : Int) = (y : Int) / 2 by omega] at hx2
      have h3 : y / 2 ^^^ 3988292384 < 4294967296 := x32 (by omega) (by omega)
      by_cases ho : y % 2 + B % 2 = 1
      · have e1 : (B : Int) % 2 + (y : Int) % 2 = 1 := by omega
        go_wp2_with fail
        refine ⟨⟨j + 1, y / 2 ^^^ 3988292384, by omega, by go_num, rfl, h3, ?_⟩, by simp [intOf]; omega⟩
        show st _ = _
        rw [hyv.out, HS.out, if_pos ho, HN.out]
      · have e1 : ((B : Int) % 2 + (y : Int) % 2 == 1) = false := by
          have : ¬ ((B : Int) % 2 + (y : Int) % 2 = 1) := by omega
          simpa using this
        go_wp2_with fail
        refine ⟨⟨j + 1, y / 2, by omega, by go_num, by go_num, by omega, ?_⟩, by simp [intOf]; omega⟩
        show st _ = _
        rw [hyv.out, HS.out, if_neg ho, HN.out]
def rightV (x n : Nat) : Nat := x / 2 ^ n + x * 2 ^ (32 - n) % 4294967296
theorem rot_sum {x n : Nat} (hx : x < 4294967296) (hn : n ≤ 32) : rot x n = x / 2 ^ n + x * 2 ^ (32 - n) % 4294967296 := by
  unfold rot
  have e : (4294967296 : Nat) = 2 ^ n * 2 ^ (32 - n) := by rw [← Nat.pow_add, show n + (32 - n) = 32 by omega]
  have h1 : x * 2 ^ (32 - n) % 4294967296 = (x % 2 ^ n) * 2 ^ (32 - n) := by
    conv => lhs; rw [e]
    rw [Nat.mul_mod_mul_right]
  have h2 : x / 2 ^ n < 2 ^ (32 - n) := by
    rw [Nat.div_lt_iff_lt_mul (Nat.pow_pos (by omega)), Nat.mul_comm, ← e]
    exact hx
  rw [h1, or_add _ _ _ h2, Nat.add_comm]
set_option maxHeartbeats 1000000 in
theorem right_ok (x n : Nat) (N : Int) (hN : N = n) (w : World) (hx : x < 4294967296) (hn : Turn n) :
    Calls Tryz.prog 93 #[.int .u64 x, .int .i64 N] w fun e w' => e = .returned (.int .u64 (rot x n)) ∧ Below w.heap.size w w' := by
  subst hN
  have hr := (show Hid _ from rot_sum (x := x) (n := n) hx (by unfold Turn at hn; omega))
  rcases hn with rfl | rfl | rfl | rfl | rfl | rfl | rfl | rfl | rfl | rfl
  all_goals
    go_enter Tryz.func93, Tryz.ntmps93
    go_wp2_with fail
    go_quiet (fail)
    go_wp2_with fail
    go_ret
    refine ⟨?_, bel_drewN (Below.refl _ _) _⟩
    rw [hr.out, Int.natCast_add, Int.natCast_emod, Int.natCast_ediv, Int.natCast_mul]
    rfl
set_option maxHeartbeats 1000000 in
set_option maxRecDepth 100000 in
theorem known_ok (w : World) :
    Calls Tryz.prog 92 #[] w fun e w' => e = .returned (.agg (cw rts).toArray) ∧ Below w.heap.size w w' := by
  go_enter Tryz.func92, Tryz.ntmps92
  go_wp2_with (refine stA rfl 155 _ _ rfl w.heap.size (by rfl) (cw (List.replicate 64 0)) (cw rts) (by rfl) 155 (va_new w (cw (List.replicate 64 0)) 155) (info33.trans rfl) rfl (fun v hv => cw_one hv) ?_; intro w1 V1 U1)
  refine bodyPost_ret (v := .agg (cw rts).toArray) ?_ rfl ⟨rfl, U1.bel ((Below.refl w.heap.size w).alloc (Nat.le_refl _) (.cells (cw (List.replicate 64 0)).toArray 155)) (Nat.le_refl _)⟩
  have hld := run_loadVar_row (P := Tryz.prog) w1 w.heap.size 155 155 _ (0, 0) _ V1.blk Tryz.underlying155 rfl (info33.trans rfl)
  simp [results, Tryz.results92, asAddr, hld, Act.put]
end Go.Proofs.YtkmdegmpffgplaaGreatDoor.pk
