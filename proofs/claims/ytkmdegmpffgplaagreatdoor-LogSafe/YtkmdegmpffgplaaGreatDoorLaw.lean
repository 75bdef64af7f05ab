/- The document's sums: the contracts of Crc, Right and known. -/
import Derived.Test.YtkmdegmpffgplaaGreatDoorLav
import Derived.Laws.Bits64
namespace Go.Proofs.YtkmdegmpffgplaaGreatDoor.pk
open Go.RowKit
set_option linter.unusedVariables false

theorem st_step (c b : Nat) : st (c ^^^ b) = (if c % 2 + b % 2 = 1 then c / 2 ^^^ 3988292384 else c / 2) ^^^ (b / 2) := by
  unfold st
  rw [Nat.xor_div_two]
  have h : (c ^^^ b) % 2 = 1 ↔ c % 2 + b % 2 = 1 := by
    rw [Nat.xor_mod_two_eq_one]
    rcases Nat.mod_two_eq_zero_or_one c with h1 | h1 <;> rcases Nat.mod_two_eq_zero_or_one b with h2 | h2 <;> simp [h1, h2]
  by_cases h1 : c % 2 + b % 2 = 1
  · rw [if_pos (h.2 h1), if_pos h1, Nat.xor_assoc, Nat.xor_comm (b / 2), ← Nat.xor_assoc]
  · rw [if_neg (fun e => h1 (h.1 e)), if_neg h1]
set_option maxHeartbeats 1000000 in
set_option maxRecDepth 100000 in
theorem rcrc_ok (v : Value) (bs : List Nat) (w : World) (h : Bs w v bs) :
    Calls Tryz.prog 71 #[v] w fun e w' => e = .returned (.int .u32 (crc bs)) ∧ w' = w := by
  obtain ⟨hby, a, c, rfl, hlc, hc9, hno, hx⟩ := h
  have HX := (show Hid _ from hx)
  have HY := (show Hid _ from hby)
  clear hx hby hno
  obtain ⟨L, hL⟩ : ∃ L, L = bs.length := ⟨_, rfl⟩
  have HL : Hid (L = bs.length) := hL
  rw [← hL] at hlc ⊢
  clear hL
  go_enter Tryz.func71, Tryz.ntmps71
  go_wp2_with fail
  go_loop [3, 10] (fun s i => ∃ k x : Nat, k ≤ L ∧ i = .int .i64 k ∧ s = .int .u64 x ∧ x < 4294967296 ∧ Hid (x = crcF 4294967295 (bs.take k))) (fun _ i => L - (intOf i).toNat)
  case atStart => exact ⟨0, 4294967295, by omega, rfl, rfl, by omega, rfl⟩
  case round =>
    obtain ⟨k, x, hk, rfl, rfl, hx64, hval⟩ := hrel
    by_cases hkl : k = L
    · subst hkl
      go_wp2_with fail
      go_ret
      refine ⟨?_, rfl⟩
      have h1 := hval.out
      rw [List.take_of_length_le (by have := HL.out; omega)] at h1
      have h2 := xor_max x hx64
      have h3 := u32_xor_nat 4294967295 x (by omega) hx64
      rw [show IntKind.u32.max = ((4294967295 : Nat) : Int) from rfl, h3] at h2
      unfold crc
      rw [← h1, Nat.xor_comm, h2, show ((4294967295 - x : Nat) : Int) = 4294967295 - (x : Int) by omega]
      rfl
    have hk' : k < L := by omega
    obtain ⟨b, off, rfl, hb, hc⟩ := HX.out (by have := HL.out; omega)
    have hcell := hc k (by have := HL.out; omega)
    unfold bt at hcell
    have hbt := bt_bd HY.out k
    unfold bt at hbt
    obtain ⟨q, hq⟩ : ∃ q, q = bs.getD k 0 := ⟨_, rfl⟩
    have HQ : Hid (q = bs.getD k 0) := hq
    rw [← hq] at hcell hbt
    clear hq hc HX
    have d9 : decide ((k : Int) < (L : Int)) = true := decide_eq_true (by omega)
    go_wp2_with fail
    go_loop [3, 14] (fun s i => ∃ j y : Nat, j ≤ 8 ∧ i = .int .i64 j ∧ s = .int .u64 y ∧ y < 4294967296 ∧ Hid (sts j (x ^^^ q) = y ^^^ (q / 2 ^ j))) (fun _ i => 8 - (intOf i).toNat)
    case atStart => exact ⟨0, x, by omega, rfl, rfl, hx64, by show _ = _; simp [sts]⟩
    case round =>
      obtain ⟨j, y, hj, rfl, rfl, hy64, hyv⟩ := hrel
      by_cases hj8 : j = 8
      · subst hj8
        rw [show ((8 : Nat) : Int) = 8 from rfl]
        go_wp2_with fail
        refine ⟨⟨k + 1, y, by omega, by go_num, rfl, hy64, ?_⟩, by simp [intOf]; omega⟩
        show y = _
        rw [crcF_take _ _ _ (by have := HL.out; omega), ← hval.out, ← HQ.out]
        unfold crcB
        rw [hyv.out, show q / 2 ^ 8 = 0 by omega, Nat.xor_zero]
      have hj' : j < 8 := by omega
      obtain ⟨B, hB⟩ : ∃ B, B = q / 2 ^ j := ⟨_, rfl⟩
      have eB : (q : Int) / 2 ^ j = (B : Int) := by rw [hB, Int.natCast_ediv, Int.natCast_pow]; rfl
      have hB2 : B ≤ 255 := by rw [hB]; have := Nat.div_le_self q (2 ^ j); omega
      rw [← hB] at hyv
      have HN : Hid (q / 2 ^ (j + 1) = B / 2) := by show _ = _; rw [hB, Nat.div_div_eq_div_mul, Nat.pow_succ]
      have HS := (show Hid _ from st_step y B)
      clear hB
      have hx2 := bits_xor_u64_nat (y / 2) 3988292384 (by omega) (by omega)
      rw [show ((3988292384 : Nat) : Int) = 3988292384 from rfl, show ((y / 2 : Nat) : Int) = (y : Int) / 2 by omega] at hx2
      have h3 : y / 2 ^^^ 3988292384 < 4294967296 := x32 (by omega) (by omega)
      by_cases ho : y % 2 + B % 2 = 1
      · have e1 : (B : Int) % 2 + (y : Int) % 2 = 1 := by omega
        go_wp2_with fail
        refine ⟨⟨j + 1, y / 2 ^^^ 3988292384, by omega, by go_num, rfl, h3, ?_⟩, by simp [intOf]; omega⟩
        show st _ = _
        rw [hyv.out, HS.out, if_pos ho, HN.out]
      · have e1 : ((B : Int) % 2 + (y : Int) % 2 == 1) = false := by
          have : ¬ ((B : Int) % 2 + (y : Int) % 2 = 1) := by omega
          simpa using this
        go_wp2_with fail
        refine ⟨⟨j + 1, y / 2, by omega, by go_num, by go_num, by omega, ?_⟩, by simp [intOf]; omega⟩
        show st _ = _
        rw [hyv.out, HS.out, if_neg ho, HN.out]
def rightV (x n : Nat) : Nat := x / 2 ^ n + x * 2 ^ (32 - n) % 4294967296
theorem rot_sum {x n : Nat} (hx : x < 4294967296) (hn : n ≤ 32) : rot x n = x / 2 ^ n + x * 2 ^ (32 - n) % 4294967296 := by
  unfold rot
  have e : (4294967296 : Nat) = 2 ^ n * 2 ^ (32 - n) := by rw [← Nat.pow_add, show n + (32 - n) = 32 by omega]
  have h1 : x * 2 ^ (32 - n) % 4294967296 = (x % 2 ^ n) * 2 ^ (32 - n) := by
    conv => lhs; rw [e]
    rw [Nat.mul_mod_mul_right]
  have h2 : x / 2 ^ n < 2 ^ (32 - n) := by
    rw [Nat.div_lt_iff_lt_mul (Nat.pow_pos (by omega)), Nat.mul_comm, ← e]
    exact hx
  rw [h1, or_add _ _ _ h2, Nat.add_comm]
set_option maxHeartbeats 1000000 in
theorem right_ok (x n : Nat) (N : Int) (hN : N = n) (w : World) (hx : x < 4294967296) (hn : Turn n) :
    Calls Tryz.prog 93 #[.int .u64 x, .int .i64 N] w fun e w' => e = .returned (.int .u64 (rot x n)) ∧ Below w.heap.size w w' := by
  subst hN
  have hr := (show Hid _ from rot_sum (x := x) (n := n) hx (by unfold Turn at hn; omega))
  rcases hn with rfl | rfl | rfl | rfl | rfl | rfl | rfl | rfl | rfl | rfl
  all_goals
    go_enter Tryz.func93, Tryz.ntmps93
    go_wp2_with fail
    go_quiet (fail)
    go_wp2_with fail
    go_ret
    refine ⟨?_, bel_drewN (Below.refl _ _) _⟩
    rw [hr.out, Int.natCast_add, Int.natCast_emod, Int.natCast_ediv, Int.natCast_mul]
    rfl
set_option maxHeartbeats 1000000 in
set_option maxRecDepth 100000 in
theorem known_ok (w : World) :
    Calls Tryz.prog 92 #[] w fun e w' => e = .returned (.agg (cw rts).toArray) ∧ Below w.heap.size w w' := by
  go_enter Tryz.func92, Tryz.ntmps92
  go_wp2_with (refine stA rfl 155 _ _ rfl w.heap.size (by rfl) (cw (List.replicate 64 0)) (cw rts) (by rfl) 155 (va_new w (cw (List.replicate 64 0)) 155) (info33.trans rfl) rfl (fun v hv => cw_one hv) ?_; intro w1 V1 U1)
  refine bodyPost_ret (v := .agg (cw rts).toArray) ?_ rfl ⟨rfl, U1.bel ((Below.refl w.heap.size w).alloc (Nat.le_refl _) (.cells (cw (List.replicate 64 0)).toArray 155)) (Nat.le_refl _)⟩
  have hld := run_loadVar_row (P := Tryz.prog) w1 w.heap.size 155 155 _ (0, 0) _ V1.blk Tryz.underlying155 rfl (info33.trans rfl)
  simp [results, Tryz.results92, asAddr, hld, Act.put]
end Go.Proofs.YtkmdegmpffgplaaGreatDoor.pk
/- sum: the document's padded text is the program's blocks and its end. -/
namespace Go.Proofs.YtkmdegmpffgplaaGreatDoor.pk
open Go.RowKit
set_option linter.unusedVariables false

/-- eight bytes, the highest first -/
def be8 (B : Nat) : List Nat := [B / 2 ^ 56 % 256, B / 2 ^ 48 % 256, B / 2 ^ 40 % 256, B / 2 ^ 32 % 256, B / 2 ^ 24 % 256, B / 2 ^ 16 % 256, B / 2 ^ 8 % 256, B / 2 ^ 0 % 256]
/-- the text with its mark and noughts -/
def marked (bs : List Nat) (q : Nat) : List Nat := bs ++ 128 :: List.replicate q 0
theorem marked_len (bs : List Nat) (q : Nat) : (marked bs q).length = bs.length + 1 + q := by simp [marked]; omega
theorem pad_marked (r : List Nat) (z : Nat) (h : r.length + 9 ≤ z) : pad r z = marked r (z - r.length - 9) ++ List.replicate 8 0 := by
  obtain ⟨q, rfl⟩ : ∃ q, z = r.length + 9 + q := ⟨z - r.length - 9, by omega⟩
  unfold pad marked
  rw [show r.length + 9 + q - r.length - 9 = q by omega, show r.length + 9 + q - r.length = q + 8 + 1 by omega, List.set_append_right _ _ (Nat.le_refl _), Nat.sub_self, List.replicate_succ, List.set_cons_zero, List.append_assoc, List.cons_append, List.replicate_append_replicate]
theorem en8 (r : List Nat) (z B : Nat) (h : r.length + 9 ≤ z) : en r z B 8 = marked r (z - r.length - 9) ++ be8 B := by
  have hp := pad_marked r z h
  have hl : (marked r (z - r.length - 9)).length = z - 8 := by rw [marked_len]; omega
  generalize marked r (z - r.length - 9) = P at *
  have e : ∀ (k : Nat) (l : List Nat) (v : Nat), k < 8 → (P ++ l).set (z - 1 - k) v = P ++ l.set (7 - k) v := fun k l v hk => by
    rw [List.set_append_right _ _ (by omega), show z - 1 - k - P.length = 7 - k by omega]
  show (((((((((pad r z).set (z - 1 - 0) _).set (z - 1 - 1) _).set (z - 1 - 2) _).set (z - 1 - 3) _).set (z - 1 - 4) _).set (z - 1 - 5) _).set (z - 1 - 6) _).set (z - 1 - 7) _) = _
  rw [hp, e 0 _ _ (by omega), e 1 _ _ (by omega), e 2 _ _ (by omega), e 3 _ _ (by omega), e 4 _ _ (by omega), e 5 _ _ (by omega), e 6 _ _ (by omega), e 7 _ _ (by omega)]
  rfl
theorem rest_len (bs : List Nat) : (rest64 bs).length = bs.length % 64 := by
  unfold rest64
  rw [List.length_drop]
  omega
/-- how many noughts -/
def nz (bs : List Nat) : Nat := tailZ bs - bs.length % 64 - 9
theorem tailZ_eq (bs : List Nat) : (bs.length % 64 + 9 ≤ 64 ∧ tailZ bs = 64) ∨ (64 < bs.length % 64 + 9 ∧ tailZ bs = 128) := by
  unfold tailZ
  rw [rest_len]
  split <;> omega
theorem nz_mod (bs : List Nat) : (bs.length + 1 + nz bs) % 64 = 56 ∧ ∀ j, j < nz bs → (bs.length + 1 + j) % 64 ≠ 56 := by
  unfold nz
  rcases tailZ_eq bs with ⟨h1, h2⟩ | ⟨h1, h2⟩
  · rw [h2]
    exact ⟨by omega, fun j hj => by omega⟩
  · rw [h2]
    exact ⟨by omega, fun j hj => by omega⟩
theorem padded (bs : List Nat) : marked bs (nz bs) ++ be8 (8 * bs.length) = bs.take (64 * (bs.length / 64)) ++ tailOf bs := by
  have hr := rest_len bs
  have hz : (rest64 bs).length + 9 ≤ tailZ bs := by rw [hr]; rcases tailZ_eq bs with ⟨h1, h2⟩ | ⟨h1, h2⟩ <;> omega
  unfold tailOf
  rw [en8 _ _ _ hz, hr]
  unfold nz marked
  rw [← List.append_assoc, ← List.append_assoc]
  congr 2
  unfold rest64
  rw [List.take_append_drop]
theorem shB_front (ss A T : List Nat) (m : Nat) (hA : A.length = 64 * m) : ∀ k, k ≤ m → shB ss (A ++ T) k = shB ss A k
  | 0, _ => rfl
  | k + 1, h => by
    show mix (shB ss (A ++ T) k) (((A ++ T).drop (64 * k)).take 64) = mix (shB ss A k) ((A.drop (64 * k)).take 64)
    rw [shB_front ss A T m hA k (by omega), List.drop_append_of_le_length (by omega), List.take_append_of_le_length (by rw [List.length_drop]; omega)]
theorem shB_app (ss A T : List Nat) (m : Nat) (hA : A.length = 64 * m) : ∀ t, shB ss (A ++ T) (m + t) = shB (shB ss A m) T t
  | 0 => shB_front ss A T m hA m (Nat.le_refl _)
  | t + 1 => by
    show mix (shB ss (A ++ T) (m + t)) (((A ++ T).drop (64 * (m + t))).take 64) = mix (shB (shB ss A m) T t) ((T.drop (64 * t)).take 64)
    rw [shB_app ss A T m hA t, show 64 * (m + t) = A.length + 64 * t by omega, List.drop_append, List.drop_eq_nil_of_le (by omega), List.nil_append, show A.length + 64 * t - A.length = 64 * t by omega]
theorem sha_all (bs : List Nat) : sha bs = ob (shB fst8 (marked bs (nz bs) ++ be8 (8 * bs.length)) (bs.length / 64 + tailZ bs / 64)) 32 := by
  have hl : (bs.take (64 * (bs.length / 64))).length = 64 * (bs.length / 64) := by rw [List.length_take]; omega
  rw [padded, shB_app _ _ _ _ hl]
  unfold sha
  congr 2
  have := shB_front fst8 (bs.take (64 * (bs.length / 64))) (rest64 bs) (bs.length / 64) hl (bs.length / 64) (Nat.le_refl _)
  rw [← this]
  unfold rest64
  rw [List.take_append_drop]
end Go.Proofs.YtkmdegmpffgplaaGreatDoor.pk
/- sum: the document's Chain, given its Sha. -/
namespace Go.Proofs.YtkmdegmpffgplaaGreatDoor.pk
open Go.RowKit
set_option linter.unusedVariables false

/-- the document's Sha, as it is to be shown -/
def RSha : Prop := ∀ (v : Value) (bs : List Nat) (w : World), Bs w v bs → bs.length ≤ 140737488355100 →
    Calls Tryz.prog 64 #[v] w fun e w' => e = .returned (.agg (cl (sha bs)).toArray) ∧ Below w.heap.size w w'
theorem info32 : (Tryz.prog.info? 70).map (·.size) = some 32 := by kernel_rfl
theorem sha_cl (bs : List Nat) : (cl (sha bs)).length = 32 := by rw [cl_len]; unfold sha; exact ob_len _ _
/-- a[k] of an array of bytes by value -/
theorem idx32 (xs : List Nat) (hx : xs.length = 32) (k : Nat) (hk : k < 32) (w : World) : (Instr.index 70 (.agg (cl xs).toArray) (.int .i64 (k : Int))).run Tryz.prog w = .ok (.int .u8 ((xs.getD k 0 : Nat) : Int)) w := by
  have h1 : (0 : Int) ≤ (k : Int) ∧ (k : Int) < 32 := by omega
  have hl : k < xs.length := by omega
  simp [Instr.index, run_underlying Tryz.underlying70, asIntOf, h1, go_sem]
  rw [if_pos hk, cl_get xs k hl]
  simp [bt]
set_option maxHeartbeats 1000000 in
set_option maxRecDepth 100000 in
theorem rchain_of (hS : RSha) (xs : List Nat) (v : Value) (bs : List Nat) (w : World) (hx : xs.length = 32) (hby : By xs) (h : Bs w v bs) (hl : bs.length ≤ 140737488355000) :
    Calls Tryz.prog 33 #[.agg (cl xs).toArray, v] w fun e w' => e = .returned (.agg (cl (sha (xs ++ bs))).toArray) ∧ Below w.heap.size w w' := by
  have D := ((Below.refl w.heap.size w).alloc (Nat.le_refl _) (.cells (cl xs).toArray 70)).alloc (by simp) (.cells [Value.int .u8 0, Value.int .u8 0, Value.int .u8 0, Value.int .u8 0, Value.int .u8 0, Value.int .u8 0, Value.int .u8 0, Value.int .u8 0, Value.int .u8 0, Value.int .u8 0, Value.int .u8 0, Value.int .u8 0, Value.int .u8 0, Value.int .u8 0, Value.int .u8 0, Value.int .u8 0, Value.int .u8 0, Value.int .u8 0, Value.int .u8 0, Value.int .u8 0, Value.int .u8 0, Value.int .u8 0, Value.int .u8 0, Value.int .u8 0, Value.int .u8 0, Value.int .u8 0, Value.int .u8 0, Value.int .u8 0, Value.int .u8 0, Value.int .u8 0, Value.int .u8 0, Value.int .u8 0].toArray 70)
  have A := (va_new w (cl xs) 70).alloc (.cells [Value.int .u8 0, Value.int .u8 0, Value.int .u8 0, Value.int .u8 0, Value.int .u8 0, Value.int .u8 0, Value.int .u8 0, Value.int .u8 0, Value.int .u8 0, Value.int .u8 0, Value.int .u8 0, Value.int .u8 0, Value.int .u8 0, Value.int .u8 0, Value.int .u8 0, Value.int .u8 0, Value.int .u8 0, Value.int .u8 0, Value.int .u8 0, Value.int .u8 0, Value.int .u8 0, Value.int .u8 0, Value.int .u8 0, Value.int .u8 0, Value.int .u8 0, Value.int .u8 0, Value.int .u8 0, Value.int .u8 0, Value.int .u8 0, Value.int .u8 0, Value.int .u8 0, Value.int .u8 0].toArray 70)
  have B := va_new (w.alloc (.cells (cl xs).toArray 70)) ([Value.int .u8 0, Value.int .u8 0, Value.int .u8 0, Value.int .u8 0, Value.int .u8 0, Value.int .u8 0, Value.int .u8 0, Value.int .u8 0, Value.int .u8 0, Value.int .u8 0, Value.int .u8 0, Value.int .u8 0, Value.int .u8 0, Value.int .u8 0, Value.int .u8 0, Value.int .u8 0, Value.int .u8 0, Value.int .u8 0, Value.int .u8 0, Value.int .u8 0, Value.int .u8 0, Value.int .u8 0, Value.int .u8 0, Value.int .u8 0, Value.int .u8 0, Value.int .u8 0, Value.int .u8 0, Value.int .u8 0, Value.int .u8 0, Value.int .u8 0, Value.int .u8 0, Value.int .u8 0]) 70
  rw [World.size_alloc] at B
  have HD := (show Hid _ from D)
  have HA := (show Hid _ from A)
  have HBB := (show Hid _ from B)
  have HV := (show Hid _ from h)
  have HS := (show Hid _ from hS)
  have HY := (show Hid _ from hby)
  have HX := (show Hid _ from hx)
  have L32 : Hid ((cl xs).length = 32) := by show _ = _; rw [cl_len]; exact hx
  clear D A B h hS hby hx
  go_enter Tryz.func33, Tryz.ntmps33
  go_wp2_with (refine ldA rfl 70 _ rfl w.heap.size (by rfl) _ _ HA.out 32 _ Tryz.underlying70 (info32.trans (by rw [L32.out])) ?_)
  generalize (w.alloc (.cells (cl xs).toArray 70)).alloc (.cells [Value.int .u8 0, Value.int .u8 0, Value.int .u8 0, Value.int .u8 0, Value.int .u8 0, Value.int .u8 0, Value.int .u8 0, Value.int .u8 0, Value.int .u8 0, Value.int .u8 0, Value.int .u8 0, Value.int .u8 0, Value.int .u8 0, Value.int .u8 0, Value.int .u8 0, Value.int .u8 0, Value.int .u8 0, Value.int .u8 0, Value.int .u8 0, Value.int .u8 0, Value.int .u8 0, Value.int .u8 0, Value.int .u8 0, Value.int .u8 0, Value.int .u8 0, Value.int .u8 0, Value.int .u8 0, Value.int .u8 0, Value.int .u8 0, Value.int .u8 0, Value.int .u8 0, Value.int .u8 0].toArray 70) = w1 at *
  have lw : w.heap.size + 2 ≤ w1.heap.size := by have := HBB.out.lt; omega
  have HBD : Hid (∀ k, xs.getD k 0 < 256) := fun k => by
    have := bt_bd HY.out k
    unfold bt at this
    omega
  go_loopw [5, 9] (fun s i wr => ∃ k : Nat, k ≤ 32 ∧ i = .int .i64 k ∧ Hid (OwnB wr w1.heap.size s (xs.take k) ∧ Below w1.heap.size w1 wr)) (fun _ i _ => 32 - (intOf i).toNat)
  case atStart => exact ⟨0, by omega, rfl, by simpa using own_nil _ _, Below.refl _ _⟩
  case round =>
    obtain ⟨k, hk, rfl, K⟩ := hrel
    by_cases hk32 : k = 32
    · subst hk32
      rw [show ((32 : Nat) : Int) = 32 from rfl]
      have O := K.out.1
      rw [List.take_of_length_le (by rw [HX.out]; omega)] at O
      have HO := (show Hid _ from O)
      have HB := (show Hid _ from K.out.2)
      have X := (show Hid _ from HV.out.step (HD.out.trans (HB.out.mono HD.out.size)))
      have BZ := (show Hid _ from HBB.out.step HB.out)
      have lz := HB.out.size
      clear O K
      go_wp2_with (at_builtin; refine appB rfl _ _ rfl w1.heap.size xs bs _ _ (by rfl) (by rfl) HO.out X.out lz (by rw [HX.out]; omega) ?_; intro v2 w2 o2 b2)
      have X2 := (show Hid _ from o2.bs)
      have D2 := (show Hid _ from HB.out.trans b2)
      clear o2 b2 HO HB X BZ lz
      refine (HS.out _ _ _ X2.out (by rw [List.length_append, HX.out]; omega)).mono ?_
      rintro e w3 ⟨rfl, b3⟩
      have D3 := (show Hid _ from D2.out.trans (b3.mono D2.out.size))
      have B3 := (show Hid _ from HBB.out.step D3.out)
      clear b3 D2 X2
      have HSL := (show Hid _ from sha_cl (xs ++ bs))
      go_wp2_with (refine stA rfl 70 _ _ rfl (w.heap.size + 1) (by rfl) _ (cl (sha (xs ++ bs))) (by rfl) _ B3.out (info32.trans (by rw [HSL.out])) (by rw [HSL.out]; rfl) (fun u hu => cl_one hu) ?_; intro w4 R4 U4)
      refine bodyPost_ret (v := .agg (cl (sha (xs ++ bs))).toArray) ?_ rfl ⟨rfl, U4.bel (HD.out.trans (D3.out.mono HD.out.size)) (by omega)⟩
      have hld := run_loadVar_row (P := Tryz.prog) w4 (w.heap.size + 1) 70 70 _ (0, 0) _ R4.blk Tryz.underlying70 rfl (info32.trans (by rw [List.size_toArray, HSL.out]))
      simp [results, Tryz.results33, asAddr, hld, Act.put]
    have hk' : k < 32 := by omega
    have h1 := idx32 xs HX.out k hk'
    have h2 := HBD.out k
    have HTK : Hid (xs.take k ++ [xs.getD k 0] = xs.take (k + 1)) := by
      have hl : k < xs.length := by rw [HX.out]; exact hk'
      show _ = _
      rw [List.take_add_one, List.getElem?_eq_getElem hl]
      simp [List.getD, hl]
    generalize xs.getD k 0 = d at *
    have e1 : (0 : Int) ≤ (k : Int) := by omega
    have e2 : (k : Int) < 32 := by omega
    go_wp2_with (at_builtin; refine appB1 rfl _ _ rfl w1.heap.size (xs.take k) _ (d : Int) d (by rfl) (by rfl) rfl h2 K.out.1 K.out.2.size (by rw [List.length_take]; omega) ?_; intro v3 w3 o3 b3)
    refine ⟨⟨k + 1, by omega, by go_num, ?_, K.out.2.trans b3⟩, by simp [intOf]; omega⟩
    rw [← HTK.out]
    exact o3
end Go.Proofs.YtkmdegmpffgplaaGreatDoor.pk
