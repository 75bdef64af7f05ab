/- Crc: plain arithmetic of the sum. -/
import Derived.Test.YtkmdegmpffgplaaGreatDoorLae
import Derived.Laws.BitsAllLaws
import Derived.Laws.Rows
import Derived.Laws.Tables
import Derived.BigQuiet
import Derived.Deep.RegionHeld3
import Derived.Deep.DeepCutAuto
namespace Go.Proofs.YtkmdegmpffgplaaGreatDoor.pk
set_option linter.unusedVariables false
set_option linter.unusedSimpArgs false

/-- a step of the sum: one bit -/
def st (c : Nat) : Nat := if c % 2 = 1 then (c / 2) ^^^ 3988292384 else c / 2
def sts : Nat → Nat → Nat
  | 0, c => c
  | k + 1, c => st (sts k c)
/-- one byte -/
def crcB (c b : Nat) : Nat := sts 8 (c ^^^ b)
def crcF (c : Nat) (bs : List Nat) : Nat := bs.foldl crcB c
def crc (bs : List Nat) : Nat := crcF 4294967295 bs ^^^ 4294967295
theorem xor_cancel (a b : Nat) : a ^^^ b ^^^ b = a := by rw [Nat.xor_assoc, Nat.xor_self, Nat.xor_zero]
theorem xor_lc (a b c : Nat) : a ^^^ (b ^^^ c) = b ^^^ (a ^^^ c) := by rw [← Nat.xor_assoc, Nat.xor_comm a b, Nat.xor_assoc]
theorem st_xor (a b : Nat) : st (a ^^^ b) = st a ^^^ st b := by
  unfold st
  rw [Nat.xor_div_two]
  by_cases ha : a % 2 = 1 <;> by_cases hb : b % 2 = 1 <;> simp only [Nat.xor_mod_two_eq_one, ha, hb, iff_true, iff_false, not_true, not_false_iff, if_true, if_false, false_iff, true_iff]
  · rw [Nat.xor_assoc (a / 2), Nat.xor_comm 3988292384, xor_cancel]
  · rw [Nat.xor_assoc, Nat.xor_assoc, Nat.xor_comm (b / 2)]
  · rw [Nat.xor_assoc]
theorem st_lt {c : Nat} (h : c < 4294967296) : st c < 4294967296 := by
  unfold st
  split
  · exact Nat.xor_lt_two_pow (n := 32) (by omega) (by omega)
  · omega
theorem st_zero {c : Nat} (h : c < 4294967296) (e : st c = 0) : c = 0 := by
  unfold st at e
  split at e
  · exfalso
    have h1 : c / 2 = 3988292384 := by
      have := congrArg (· ^^^ 3988292384) e
      simp only [xor_cancel, Nat.zero_xor] at this
      exact this
    omega
  · omega
theorem st_nul : st 0 = 0 := by decide
theorem xor_zero_of {a b : Nat} (h : a ^^^ b = 0) : a = b := by
  have := congrArg (· ^^^ b) h
  simpa only [xor_cancel, Nat.zero_xor] using this
theorem sts_xor : ∀ (k a b : Nat), sts k (a ^^^ b) = sts k a ^^^ sts k b
  | 0, _, _ => rfl
  | k + 1, a, b => by simp only [sts, sts_xor k, st_xor]
theorem sts_lt : ∀ (k : Nat) {c : Nat}, c < 4294967296 → sts k c < 4294967296
  | 0, _, h => h
  | k + 1, _, h => st_lt (sts_lt k h)
theorem sts_zero : ∀ (k : Nat) {c : Nat}, c < 4294967296 → sts k c = 0 → c = 0
  | 0, _, _, e => e
  | k + 1, _, h, e => sts_zero k h (st_zero (sts_lt k h) e)
theorem x32 {a b : Nat} (ha : a < 4294967296) (hb : b < 4294967296) : a ^^^ b < 4294967296 := Nat.xor_lt_two_pow (n := 32) ha hb
theorem crcB_lt {c b : Nat} (h : c < 4294967296) (hb : b < 256) : crcB c b < 4294967296 := sts_lt 8 (x32 h (by omega))
theorem crcF_lt : ∀ (bs : List Nat) {c : Nat}, c < 4294967296 → (∀ x ∈ bs, x < 256) → crcF c bs < 4294967296
  | [], _, h, _ => h
  | b :: t, c, h, hb => crcF_lt t (c := crcB c b) (crcB_lt h (hb b (by simp))) fun x hx => hb x (by simp [hx])
theorem crcF_snoc (c : Nat) (bs : List Nat) (b : Nat) : crcF c (bs ++ [b]) = crcB (crcF c bs) b := by simp [crcF]
theorem crcF_take (c : Nat) (bs : List Nat) (k : Nat) (h : k < bs.length) : crcF c (bs.take (k + 1)) = crcB (crcF c (bs.take k)) (bs.getD k 0) := by
  rw [List.take_add_one, List.getElem?_eq_getElem h]
  simp only [Option.toList]
  rw [crcF_snoc]
  simp [List.getD, h]
theorem crcB_xor3 (a b c x y z : Nat) : crcB (a ^^^ b ^^^ c) (x ^^^ y ^^^ z) = crcB a x ^^^ crcB b y ^^^ crcB c z := by
  unfold crcB
  rw [← sts_xor, ← sts_xor]
  congr 1
  simp only [Nat.xor_assoc, xor_lc, Nat.xor_comm]
theorem crcF_xor3 : ∀ (xs ys zs : List Nat) (n a b c : Nat), xs.length = n → ys.length = n → zs.length = n → ∀ us : List Nat, us.length = n → (∀ i, i < n → us.getD i 0 = xs.getD i 0 ^^^ ys.getD i 0 ^^^ zs.getD i 0) →
    crcF (a ^^^ b ^^^ c) us = crcF a xs ^^^ crcF b ys ^^^ crcF c zs
  | [], ys, zs, n, a, b, c, hx, hy, hz, us, hu, h => by
    simp at hx
    subst hx
    obtain rfl := List.eq_nil_of_length_eq_zero hy
    obtain rfl := List.eq_nil_of_length_eq_zero hz
    obtain rfl := List.eq_nil_of_length_eq_zero hu
    rfl
  | x :: xs, ys, zs, n, a, b, c, hx, hy, hz, us, hu, h => by
    obtain ⟨m, rfl⟩ : ∃ m, n = m + 1 := ⟨xs.length, by simp at hx; omega⟩
    match ys, zs, us, hy, hz, hu, h with
    | y :: ys, z :: zs, u :: us, hy, hz, hu, h =>
      have e : u = x ^^^ y ^^^ z := by simpa using h 0 (by omega)
      subst e
      show crcF (crcB _ _) us = _
      rw [crcB_xor3]
      exact crcF_xor3 xs ys zs m _ _ _ (by simpa using hx) (by simpa using hy) (by simpa using hz) us (by simpa using hu) fun i hi => by simpa using h (i + 1) (by omega)
theorem crc_xor3 (xs ys zs us : List Nat) (n : Nat) (hx : xs.length = n) (hy : ys.length = n) (hz : zs.length = n) (hu : us.length = n) (h : ∀ i, i < n → us.getD i 0 = xs.getD i 0 ^^^ ys.getD i 0 ^^^ zs.getD i 0) :
    crc us = crc xs ^^^ crc ys ^^^ crc zs := by
  have h1 := crcF_xor3 xs ys zs n 4294967295 4294967295 4294967295 hx hy hz us hu h
  rw [Nat.xor_self, Nat.zero_xor] at h1
  unfold crc
  rw [h1]
  generalize crcF 4294967295 xs = p
  generalize crcF 4294967295 ys = q
  generalize crcF 4294967295 zs = r
  generalize (4294967295 : Nat) = o
  rw [Nat.xor_comm q o, ← Nat.xor_assoc (p ^^^ o), xor_cancel, ← Nat.xor_assoc]
theorem crcB_inj {c d b : Nat} (hc : c < 4294967296) (hd : d < 4294967296) (hb : b < 256) (e : crcB c b = crcB d b) : c = d := by
  have h1 : sts 8 ((c ^^^ b) ^^^ (d ^^^ b)) = 0 := by rw [sts_xor]; unfold crcB at e; rw [e, Nat.xor_self]
  have h2 := sts_zero 8 (x32 (x32 hc (by omega)) (x32 hd (by omega))) h1
  have h3 := xor_zero_of h2
  have := congrArg (· ^^^ b) h3
  simpa only [xor_cancel] using this
theorem crcB_inj2 {c b b' : Nat} (hc : c < 4294967296) (hb : b < 256) (hb' : b' < 256) (e : crcB c b = crcB c b') : b = b' := by
  have h1 : sts 8 ((c ^^^ b) ^^^ (c ^^^ b')) = 0 := by rw [sts_xor]; unfold crcB at e; rw [e, Nat.xor_self]
  have h2 := sts_zero 8 (x32 (x32 hc (by omega)) (x32 hc (by omega))) h1
  have h3 := xor_zero_of h2
  rw [Nat.xor_comm c b, Nat.xor_comm c b'] at h3
  have := congrArg (· ^^^ c) h3
  simpa only [xor_cancel] using this
theorem crcF_inj : ∀ (bs : List Nat) {c d : Nat}, c < 4294967296 → d < 4294967296 → (∀ x ∈ bs, x < 256) → crcF c bs = crcF d bs → c = d
  | [], _, _, _, _, _, e => e
  | b :: t, c, d, hc, hd, hb, e => crcB_inj hc hd (hb b (by simp)) (crcF_inj t (crcB_lt hc (hb b (by simp))) (crcB_lt hd (hb b (by simp))) (fun x hx => hb x (by simp [hx])) e)
theorem crcF_set : ∀ (bs : List Nat) (i d c : Nat), c < 4294967296 → (∀ x ∈ bs, x < 256) → d < 256 → i < bs.length → d ≠ bs.getD i 0 → crcF c (bs.set i d) ≠ crcF c bs
  | b :: t, 0, d, c, hc, hb, hd, hi, hne => fun e => hne (by
      have hb0 := hb b (by simp)
      have := crcF_inj t (crcB_lt hc hd) (crcB_lt hc hb0) (fun x hx => hb x (by simp [hx])) (show crcF (crcB c d) t = crcF (crcB c b) t from e)
      simpa using crcB_inj2 hc hd hb0 this)
  | b :: t, i + 1, d, c, hc, hb, hd, hi, hne => fun e => crcF_set t i d (crcB c b) (crcB_lt hc (hb b (by simp))) (fun x hx => hb x (by simp [hx])) hd (by simpa using hi) (by simpa using hne) e
theorem crc_set (bs : List Nat) (i d : Nat) (hb : ∀ x ∈ bs, x < 256) (hd : d < 256) (hi : i < bs.length) (hne : d ≠ bs.getD i 0) : crc (bs.set i d) ≠ crc bs := fun e => by
  have := congrArg (· ^^^ 4294967295) e
  simp only [crc, xor_cancel] at this
  exact crcF_set bs i d 4294967295 (by omega) hb hd hi hne this
theorem crc_lt (bs : List Nat) (hb : ∀ x ∈ bs, x < 256) : crc bs < 4294967296 := x32 (crcF_lt bs (by omega) hb) (by omega)
theorem turn_ne (x b : Nat) (hx : x < 256) (hb : b < 8) : x ^^^ 2 ^ b ≠ x ∧ x ^^^ 2 ^ b < 256 := by
  have hp : 0 < 2 ^ b := Nat.pow_pos (by omega)
  have hl : 2 ^ b < 2 ^ 8 := Nat.pow_lt_pow_right (by omega) hb
  refine ⟨fun e => ?_, Nat.xor_lt_two_pow (n := 8) hx hl⟩
  have h1 : 2 ^ b ^^^ x ^^^ x = 2 ^ b := xor_cancel _ _
  rw [Nat.xor_comm (2 ^ b) x, e, Nat.xor_self] at h1
  omega
theorem crc_nine : crc [49, 50, 51, 52, 53, 54, 55, 56, 57] = 3421780262 := by decide +kernel
theorem crc_nil : crc [] = 0 := by decide
end Go.Proofs.YtkmdegmpffgplaaGreatDoor.pk
/- sum: the contract of Crc; Twin. -/
namespace Go.Proofs.YtkmdegmpffgplaaGreatDoor.pk
open Go.RowKit
set_option linter.unusedVariables false

theorem and_one32 (y : Nat) (h : y < 4294967296) : bits .and .u32 (y : Int) 1 = ((y % 2 : Nat) : Int) := by
  have := u32_and_nat y 1 h (by omega)
  rw [Nat.and_one_is_mod] at this
  exact this
set_option maxHeartbeats 1000000 in
set_option maxRecDepth 100000 in
theorem crc_ok (v : Value) (bs : List Nat) (w : World) (h : Bs w v bs) :
    Calls Tryz.prog 109 #[v] w fun e w' => e = .returned (.int .u32 (crc bs)) ∧ w' = w := by
  obtain ⟨hby, a, c, rfl, hlc, hc9, hno, hx⟩ := h
  have HX := (show Hid _ from hx)
  have HY := (show Hid _ from hby)
  clear hx hby hno
  obtain ⟨L, hL⟩ : ∃ L, L = bs.length := ⟨_, rfl⟩
  have HL : Hid (L = bs.length) := hL
  rw [← hL] at hlc ⊢
  clear hL
  go_enter Tryz.func109, Tryz.ntmps109
  go_wp2_with fail
  go_loop [3, 9] (fun s i => ∃ k x : Nat, k ≤ L ∧ i = .int .i64 k ∧ s = .int .u32 x ∧ x < 4294967296 ∧ Hid (x = crcF 4294967295 (bs.take k))) (fun _ i => L - (intOf i).toNat)
  case atStart => exact ⟨0, 4294967295, by omega, rfl, rfl, by omega, rfl⟩
  case round =>
    obtain ⟨k, x, hk, rfl, rfl, hx64, hval⟩ := hrel
    by_cases hkl : k = L
    · subst hkl
      have hxor := u32_xor_nat x 4294967295 hx64 (by omega)
      rw [show ((4294967295 : Nat) : Int) = 4294967295 from rfl] at hxor
      go_wp2_with fail
      go_ret
      refine ⟨?_, rfl⟩
      have := hval.out
      rw [List.take_of_length_le (by have := HL.out; omega)] at this
      rw [this]
      rfl
    have hk' : k < L := by omega
    obtain ⟨b, off, rfl, hb, hc⟩ := HX.out (by have := HL.out; omega)
    have hcell := hc k (by have := HL.out; omega)
    unfold bt at hcell
    have hbt := bt_bd HY.out k
    unfold bt at hbt
    obtain ⟨q, hq⟩ : ∃ q, q = bs.getD k 0 := ⟨_, rfl⟩
    have HQ : Hid (q = bs.getD k 0) := hq
    rw [← hq] at hcell hbt
    clear hq hc HX
    have hxor := u32_xor_nat x q hx64 (by omega)
    have hlt := (show Hid _ from x32 (a := x) (b := q) hx64 (by omega))
    go_wp2_with fail
    go_loop [3, 17] (fun s i => ∃ j y : Nat, j ≤ 8 ∧ i = .int .i64 j ∧ s = .int .u32 y ∧ y < 4294967296 ∧ Hid (y = sts j (x ^^^ q))) (fun _ i => 8 - (intOf i).toNat)
    case atStart => exact ⟨0, x ^^^ q, by omega, rfl, rfl, hlt.out, rfl⟩
    case round =>
      clear hxor
      obtain ⟨j, y, hj, rfl, rfl, hy64, hyv⟩ := hrel
      by_cases hj8 : j = 8
      · subst hj8
        rw [show ((8 : Nat) : Int) = 8 from rfl]
        go_wp2_with fail
        refine ⟨⟨k + 1, y, by omega, by go_num, rfl, hy64, ?_⟩, by simp [intOf]; omega⟩
        show y = _
        rw [crcF_take _ _ _ (by have := HL.out; omega), ← hval.out, ← HQ.out, hyv.out]
        rfl
      have hj' : j < 8 := by omega
      have hand := and_one32 y hy64
      by_cases ho : y % 2 = 1
      · rw [ho, show ((1 : Nat) : Int) = 1 from rfl] at hand
        have hx2 := u32_xor_nat (y / 2) 3988292384 (by omega) (by omega)
        rw [show ((3988292384 : Nat) : Int) = 3988292384 from rfl, show ((y / 2 : Nat) : Int) = (y : Int) / 2 by omega] at hx2
        go_wp2_with fail
        refine ⟨⟨j + 1, (y / 2) ^^^ 3988292384, by omega, by go_num, rfl, x32 (by omega) (by omega), ?_⟩, by simp [intOf]; omega⟩
        show _ = st _
        rw [← hyv.out]
        unfold st
        rw [if_pos ho]
      · have ho' : y % 2 = 0 := by omega
        rw [ho', show ((0 : Nat) : Int) = 0 from rfl] at hand
        go_wp2_with fail
        refine ⟨⟨j + 1, y / 2, by omega, by go_num, by go_num, by omega, ?_⟩, by simp [intOf]; omega⟩
        show _ = st _
        rw [← hyv.out]
        unfold st
        rw [if_neg ho]
end Go.Proofs.YtkmdegmpffgplaaGreatDoor.pk
/- Arrays in a block of their own, known whole: loads and stores of all of it; the contracts of turned, word, turns. -/
namespace Go.Proofs.YtkmdegmpffgplaaGreatDoor.pk
open Go.RowKit
set_option linter.unusedVariables false

/-- words as cells -/
def cw (xs : List Nat) : List Value := xs.map fun (d : Nat) => Value.int .u32 (d : Int)
theorem cw_len (xs : List Nat) : (cw xs).length = xs.length := by simp [cw]
theorem cw_get (xs : List Nat) (k : Nat) (h : k < xs.length) : (cw xs)[k]? = some (.int .u32 ((xs.getD k 0 : Nat) : Int)) := by simp [cw, h]
theorem cw_one {xs : List Nat} {u : Value} (h : u ∈ cw xs) : u.oneCell' = true := by
  obtain ⟨x, _, rfl⟩ := List.mem_map.1 h; rfl
theorem cw_set (xs : List Nat) (k d : Nat) : cw (xs.set k d) = (cw xs).set k (.int .u32 (d : Int)) := by simp [cw, List.map_set]
theorem cl_set (xs : List Nat) (k d : Nat) : cl (xs.set k d) = (cl xs).set k (.int .u8 (d : Int)) := by simp [cl, List.map_set]
/-- a block known whole -/
structure VA (w : World) (p : Nat) (cs : List Value) (T : TypeId) : Prop where
  blk : w.heap[p]? = some (.cells cs.toArray T (0, 0))
theorem VA.lt {w : World} {p : Nat} {cs : List Value} {T : TypeId} (h : VA w p cs T) : p < w.heap.size := by
  rcases Nat.lt_or_ge p w.heap.size with hlt | hge
  · exact hlt
  · have := h.blk; rw [Array.getElem?_eq_none hge] at this; cases this
theorem VA.cell {w : World} {p : Nat} {cs : List Value} {T : TypeId} (h : VA w p cs T) (k : Nat) {v : Value} (hv : cs[k]? = some v) : w.cell? ⟨p, k, none⟩ = some v := by
  rw [cell_of_row w p k _ _ _ h.blk]; simpa using hv
theorem VA.free {w : World} {p : Nat} {cs : List Value} {T : TypeId} (h : VA w p cs T) (k : Nat) : w.frozen? ⟨p, k, none⟩ = false := frozen_of_row w p k _ _ h.blk
theorem VA.step {w w' : World} {p : Nat} {cs : List Value} {T : TypeId} (h : VA w p cs T) (k : Below w.heap.size w w') : VA w' p cs T := ⟨by rw [k.block p h.lt]; exact h.blk⟩
theorem VA.alloc {w : World} {p : Nat} {cs : List Value} {T : TypeId} (h : VA w p cs T) (o : Obj) : VA (w.alloc o) p cs T := h.step ((Below.refl _ _).alloc (Nat.le_refl _) o)
theorem VA.drew {w : World} {p : Nat} {cs : List Value} {T : TypeId} (h : VA w p cs T) : VA w.drew p cs T := ⟨h.blk⟩
theorem VA.drewN {w : World} {p : Nat} {cs : List Value} {T : TypeId} (h : VA w p cs T) (n : Nat) : VA (w.drewN n) p cs T := ⟨h.blk⟩
theorem va_new (w : World) (cs : List Value) (T : TypeId) : VA (w.alloc (.cells cs.toArray T)) w.heap.size cs T := ⟨Go.heap_alloc_new w _⟩
theorem VA.set {w : World} {p : Nat} {cs : List Value} {T : TypeId} (h : VA w p cs T) (k : Nat) (u : Value) : VA (w.setCell ⟨p, k, none⟩ u) p (cs.set k u) T := ⟨by rw [Go.heap_setCell_same w p k _ _ u h.blk]; simp⟩
theorem VA.set_other {w : World} {p q : Nat} {cs : List Value} {T : TypeId} (h : VA w p cs T) (hq : p ≠ q) (k : Nat) (u : Value) : VA (w.setCell ⟨q, k, none⟩ u) p cs T := ⟨by rw [Go.heap_setCell_other w _ p u hq]; exact h.blk⟩
/-- only the block p is another -/
structure Upd (p : Nat) (w w' : World) : Prop where
  os : w'.os = w.os
  tape : w'.tape = w.tape
  output : w'.output = w.output
  size : w'.heap.size = w.heap.size
  block : ∀ k, k ≠ p → w'.heap[k]? = w.heap[k]?
theorem VA.upd {w w' : World} {p q : Nat} {cs : List Value} {T : TypeId} (h : VA w q cs T) (k : Upd p w w') (hq : q ≠ p) : VA w' q cs T := ⟨by rw [k.block q hq]; exact h.blk⟩
theorem Upd.bel {p B : Nat} {w0 w w' : World} (k : Upd p w w') (h : Below B w0 w) (hp : B ≤ p) : Below B w0 w' :=
  ⟨k.os.trans h.os, k.tape.trans h.tape, k.output.trans h.output, by rw [k.size]; exact h.size, fun b hb => (k.block b (by omega)).trans (h.block b hb)⟩
theorem upd_setRow (w : World) (p : Nat) (cs : Array Value) : Upd p w (w.setRow p cs) :=
  ⟨rfl, rfl, rfl, by simp, fun k hk => by simp only [World.setRow, Array.getElem?_modify]; rw [if_neg (fun e => hk e.symm)]⟩
/-- all of an array is loaded -/
theorem ldA {w : World} {ops : Array Oper} {rest : List Oper} {o : Oper} {a : Act} {Q : Exit → Act → World → Prop} (hgd : o.guard = none) (t : TypeId) (x : Operand) (ho : o.op = .load t x)
    (p : Nat) (hx : a.eval x = .pointer (some ⟨p, 0, none⟩)) (cs : List Value) (T : TypeId) (h : VA w p cs T) (n : Nat) (e : TypeId) (hu : Tryz.prog.underlying t = some (.array n e)) (hi : (Tryz.prog.info? t).map (·.size) = some cs.length)
    (k : wpList Tryz.prog ops Q rest (a.put o.dst (.agg cs.toArray)) w) : wpList Tryz.prog ops Q (o :: rest) a w := by
  refine wpList_plain hgd fun K hK' => ?_
  have hrun := run_loadVar_row (P := Tryz.prog) w p T t cs.toArray (0, 0) _ h.blk hu rfl (by simpa using hi)
  unfold Oper.wp execOp
  simp only [ho, hx, Instr.loadAt, Instr.sureAddr, Sem.run_bind, Sem.run_pure, Result.andThen_ok, hrun]
  exact hK' _ _ k
/-- all of an array is stored -/
theorem stA {w : World} {ops : Array Oper} {rest : List Oper} {o : Oper} {a : Act} {Q : Exit → Act → World → Prop} (hgd : o.guard = none) (t : TypeId) (x y : Operand) (ho : o.op = .store t x y)
    (p : Nat) (hx : a.eval x = .pointer (some ⟨p, 0, none⟩)) (cs ds : List Value) (hy : a.eval y = .agg ds.toArray) (T : TypeId) (h : VA w p cs T) (hi : (Tryz.prog.info? t).map (·.size) = some ds.length) (hl : cs.length = ds.length) (h1 : ∀ v ∈ ds, v.oneCell' = true)
    (k : ∀ w', VA w' p ds T → Upd p w w' → wpList Tryz.prog ops Q rest (a.put o.dst undef) w') : wpList Tryz.prog ops Q (o :: rest) a w := by
  refine wpList_plain hgd fun K hK' => ?_
  have hrun := run_storeVar_row (P := Tryz.prog) w p T t cs.toArray ds.toArray h.blk (by simpa using hi) (by simpa using hl) (Array.all_eq_true_iff_forall_mem.2 (fun v hv => h1 v (by simpa using hv)))
  unfold Oper.wp execOp
  simp only [ho, hx, hy, Instr.storeAt, Instr.sureAddr, Sem.run_bind, Sem.run_pure, Result.andThen_ok, hrun]
  exact hK' _ _ (k _ ⟨setRow_heap w p _ _ _ _ h.blk⟩ (upd_setRow w p _))
/-- turned right by n bits -/
def rot (x n : Nat) : Nat := x * 2 ^ (32 - n) % 4294967296 ||| x / 2 ^ n
theorem rot_lt {x n : Nat} (h : x < 4294967296) : rot x n < 4294967296 := by
  refine Nat.or_lt_two_pow (n := 32) (Nat.mod_lt _ (by omega)) ?_
  have := Nat.div_le_self x (2 ^ n)
  omega
theorem rot_or (x n : Nat) (h : x < 4294967296) : bits .or .u32 ((x : Int) * ((2 ^ (32 - n) : Nat) : Int) % 4294967296) ((x : Int) / ((2 ^ n : Nat) : Int)) = ((rot x n : Nat) : Int) := by
  have := u32_or_nat (x * 2 ^ (32 - n) % 4294967296) (x / 2 ^ n) (Nat.mod_lt _ (by omega)) (by have := Nat.div_le_self x (2 ^ n); omega)
  rw [← show ((x * 2 ^ (32 - n) % 4294967296 : Nat) : Int) = (x : Int) * ((2 ^ (32 - n) : Nat) : Int) % 4294967296 by rw [Int.natCast_emod, Int.natCast_mul]; rfl, ← show ((x / 2 ^ n : Nat) : Int) = (x : Int) / ((2 ^ n : Nat) : Int) by rw [Int.natCast_ediv]]
  exact this
def Turn (n : Nat) : Prop := n = 2 ∨ n = 6 ∨ n = 7 ∨ n = 11 ∨ n = 13 ∨ n = 17 ∨ n = 18 ∨ n = 19 ∨ n = 22 ∨ n = 25
theorem rotl_ok (x n : Nat) (w : World) (hx : x < 4294967296) (hn : Turn n) :
    Calls Tryz.prog 144 #[.int .u32 x, .int .i64 (-(n : Int))] w fun e w' => e = .returned (.int .u32 (rot x n)) ∧ w' = w := by
  have hr := (show Hid _ from rot_or x n hx)
  rcases hn with rfl | rfl | rfl | rfl | rfl | rfl | rfl | rfl | rfl | rfl
  · have h1 : bits .and .u64 (IntKind.u64.wrap (-2)) 31 = 30 := by decide +kernel
    rw [show (-((2 : Nat) : Int)) = -2 from rfl]
    go_enter Tryz.func144, Tryz.ntmps144
    go_wp2_with fail
    go_ret
    refine ⟨?_, rfl⟩
    rw [← hr.out]
    rfl
  · have h1 : bits .and .u64 (IntKind.u64.wrap (-6)) 31 = 26 := by decide +kernel
    rw [show (-((6 : Nat) : Int)) = -6 from rfl]
    go_enter Tryz.func144, Tryz.ntmps144
    go_wp2_with fail
    go_ret
    refine ⟨?_, rfl⟩
    rw [← hr.out]
    rfl
  · have h1 : bits .and .u64 (IntKind.u64.wrap (-7)) 31 = 25 := by decide +kernel
    rw [show (-((7 : Nat) : Int)) = -7 from rfl]
    go_enter Tryz.func144, Tryz.ntmps144
    go_wp2_with fail
    go_ret
    refine ⟨?_, rfl⟩
    rw [← hr.out]
    rfl
  · have h1 : bits .and .u64 (IntKind.u64.wrap (-11)) 31 = 21 := by decide +kernel
    rw [show (-((11 : Nat) : Int)) = -11 from rfl]
    go_enter Tryz.func144, Tryz.ntmps144
    go_wp2_with fail
    go_ret
    refine ⟨?_, rfl⟩
    rw [← hr.out]
    rfl
  · have h1 : bits .and .u64 (IntKind.u64.wrap (-13)) 31 = 19 := by decide +kernel
    rw [show (-((13 : Nat) : Int)) = -13 from rfl]
    go_enter Tryz.func144, Tryz.ntmps144
    go_wp2_with fail
    go_ret
    refine ⟨?_, rfl⟩
    rw [← hr.out]
    rfl
  · have h1 : bits .and .u64 (IntKind.u64.wrap (-17)) 31 = 15 := by decide +kernel
    rw [show (-((17 : Nat) : Int)) = -17 from rfl]
    go_enter Tryz.func144, Tryz.ntmps144
    go_wp2_with fail
    go_ret
    refine ⟨?_, rfl⟩
    rw [← hr.out]
    rfl
  · have h1 : bits .and .u64 (IntKind.u64.wrap (-18)) 31 = 14 := by decide +kernel
    rw [show (-((18 : Nat) : Int)) = -18 from rfl]
    go_enter Tryz.func144, Tryz.ntmps144
    go_wp2_with fail
    go_ret
    refine ⟨?_, rfl⟩
    rw [← hr.out]
    rfl
  · have h1 : bits .and .u64 (IntKind.u64.wrap (-19)) 31 = 13 := by decide +kernel
    rw [show (-((19 : Nat) : Int)) = -19 from rfl]
    go_enter Tryz.func144, Tryz.ntmps144
    go_wp2_with fail
    go_ret
    refine ⟨?_, rfl⟩
    rw [← hr.out]
    rfl
  · have h1 : bits .and .u64 (IntKind.u64.wrap (-22)) 31 = 10 := by decide +kernel
    rw [show (-((22 : Nat) : Int)) = -22 from rfl]
    go_enter Tryz.func144, Tryz.ntmps144
    go_wp2_with fail
    go_ret
    refine ⟨?_, rfl⟩
    rw [← hr.out]
    rfl
  · have h1 : bits .and .u64 (IntKind.u64.wrap (-25)) 31 = 7 := by decide +kernel
    rw [show (-((25 : Nat) : Int)) = -25 from rfl]
    go_enter Tryz.func144, Tryz.ntmps144
    go_wp2_with fail
    go_ret
    refine ⟨?_, rfl⟩
    rw [← hr.out]
    rfl
theorem turned_ok (x n : Nat) (N : Int) (hN : N = n) (w : World) (hx : x < 4294967296) (hn : Turn n) :
    Calls Tryz.prog 129 #[.int .u32 x, .int .i64 N] w fun e w' => e = .returned (.int .u32 (rot x n)) ∧ w' = w := by
  subst hN
  have h2 : n ≤ 25 := by unfold Turn at hn; omega
  have HN := (show Hid _ from hn)
  clear hn
  go_enter Tryz.func129, Tryz.ntmps129
  go_wp2_with (go_at_call 144; refine (rotl_ok x n _ hx HN.out).mono ?_; rintro e w1 ⟨rfl, rfl⟩)
  go_ret
  exact ⟨rfl, rfl⟩
/-- four bytes as a word -/
def wd4 (a b c d : Nat) : Nat := a * 16777216 + b * 65536 + c * 256 + d
theorem or_add (a k b : Nat) (h : b < 2 ^ k) : a * 2 ^ k ||| b = a * 2 ^ k + b := by
  have := Nat.shiftLeft_add_eq_or_of_lt h a
  rw [Nat.shiftLeft_eq] at this
  exact this.symm
theorem wd4_or (a b c d : Nat) (ha : a < 256) (hb : b < 256) (hc : c < 256) (hd : d < 256) :
    bits .or .u32 ((a : Int) * 16777216) ((b : Int) * 65536) = ((a * 16777216 + b * 65536 : Nat) : Int) ∧ bits .or .u32 ((a * 16777216 + b * 65536 : Nat) : Int) ((c : Int) * 256) = ((a * 16777216 + b * 65536 + c * 256 : Nat) : Int) ∧
      bits .or .u32 ((a * 16777216 + b * 65536 + c * 256 : Nat) : Int) (d : Int) = ((wd4 a b c d : Nat) : Int) := by
  refine ⟨?_, ?_, ?_⟩
  · have := u32_or_nat (a * 16777216) (b * 65536) (by omega) (by omega)
    rw [or_add a 24 (b * 65536) (by omega)] at this
    rw [← this]
    congr 1
  · have := u32_or_nat (a * 16777216 + b * 65536) (c * 256) (by omega) (by omega)
    rw [show a * 16777216 + b * 65536 = (a * 256 + b) * 2 ^ 16 by omega, or_add _ 16 (c * 256) (by omega)] at this
    rw [show a * 16777216 + b * 65536 + c * 256 = (a * 256 + b) * 2 ^ 16 + c * 256 by omega, show a * 16777216 + b * 65536 = (a * 256 + b) * 2 ^ 16 by omega, ← this]
    congr 1
  · have := u32_or_nat (a * 16777216 + b * 65536 + c * 256) d (by omega) (by omega)
    rw [show a * 16777216 + b * 65536 + c * 256 = (a * 65536 + b * 256 + c) * 2 ^ 8 by omega, or_add _ 8 d (by omega)] at this
    rw [wd4, show a * 16777216 + b * 65536 + c * 256 = (a * 65536 + b * 256 + c) * 2 ^ 8 by omega, ← this]
theorem wd4_lt {a b c d : Nat} (ha : a < 256) (hb : b < 256) (hc : c < 256) (hd : d < 256) : wd4 a b c d < 4294967296 := by unfold wd4; omega
set_option maxRecDepth 100000 in
theorem word_ok (v : Value) (bs : List Nat) (w : World) (h : Bs w v bs) (hl : 4 ≤ bs.length) :
    Calls Tryz.prog 128 #[v] w fun e w' => e = .returned (.int .u32 (wd4 (bs.getD 0 0) (bs.getD 1 0) (bs.getD 2 0) (bs.getD 3 0))) ∧ Below w.heap.size w w' := by
  obtain ⟨hby, a, c, rfl, hlc, hc9, hno, hx⟩ := h
  obtain ⟨b, off, rfl, hb, hc⟩ := hx (by omega)
  have c0 := hc 0 (by omega)
  have c1 := hc 1 (by omega)
  have c2 := hc 2 (by omega)
  have c3 := hc 3 (by omega)
  have b0 := bt_bd hby 0
  have b1 := bt_bd hby 1
  have b2 := bt_bd hby 2
  have b3 := bt_bd hby 3
  unfold bt at c0 c1 c2 c3 b0 b1 b2 b3
  generalize bs.getD 0 0 = x0 at *
  generalize bs.getD 1 0 = x1 at *
  generalize bs.getD 2 0 = x2 at *
  generalize bs.getD 3 0 = x3 at *
  rw [Nat.add_zero] at c0
  obtain ⟨o1, o2, o3⟩ := wd4_or x0 x1 x2 x3 (by omega) (by omega) (by omega) (by omega)
  rw [show ((x0 * 16777216 + x1 * 65536 : Nat) : Int) = (x0 : Int) * 16777216 + (x1 : Int) * 65536 by omega] at o1 o2
  rw [show ((x0 * 16777216 + x1 * 65536 + x2 * 256 : Nat) : Int) = (x0 : Int) * 16777216 + (x1 : Int) * 65536 + (x2 : Int) * 256 by omega] at o2 o3
  generalize bs.length = L at *
  clear hc hx hno hby
  go_enter Tryz.func128, Tryz.ntmps128
  go_wp2_with fail
  go_quiet (fail)
  go_wp2_with fail
  go_ret
  exact ⟨rfl, bel_drewN (Below.refl _ _) _⟩
end Go.Proofs.YtkmdegmpffgplaaGreatDoor.pk
