/- parts VII: slices.Concat of two slices of bytes (as in the texts of sum; the log). -/
import Derived.Test.YtkmdegmpffgplaaGreatDoorLar
import Derived.Test.YtkmdegmpffgplaaGreatDoorLat
import Derived.Lib.AppendZeros
import Derived.Shelf.Lay
import Derived.Ground.NamesProg
import Derived.Shelf.LaysM
import Derived.Shelf.Strconv.Itoa4
import Derived.Shelf.Strings.Repeat
import Derived.Lib.AppendIntMem
import Derived.Lib.SmallJoins
namespace Go.Proofs.YtkmdegmpffgplaaGreatDoor
open Go.RowKit pk
set_option linter.unusedVariables false

/-- append(nil, make([]byte, n)...) : a new row; cut to nothing it is the call's own -/
theorem appMk {w : World} {ops : Array Oper} {rest : List Oper} {o : Oper} {a : Act} {Q : Exit → Act → World → Prop} (hgd : o.guard = none) (s x : Operand)
    (ho : o.op = .call { callee := .builtin .append, args := #[s, x], argTypes := #[22, 3] })
    (n : Nat) (N : Int) (hs : a.eval s = .slice none 0 0) (hx : a.eval x = .int .i64 N) (hN : N = n) (h0 : 0 < n) (hl : n ≤ 140737488355328)
    (h : ∀ cap w', n ≤ cap → cap ≤ 9223372036854775807 → OwnB w' w.heap.size (.slice (some ⟨w.heap.size, 0, none⟩) 0 cap) [] → Below w.heap.size w w' → wpList Tryz.prog ops Q rest (a.put o.dst (.slice (some ⟨w.heap.size, 0, none⟩) n cap)) w') :
    wpList Tryz.prog ops Q (o :: rest) a w := by
  subst hN
  obtain ⟨i0, hi, hz0, hz1, hz2⟩ := info8_parts
  refine wpList_plain hgd fun K hK' => ?_
  have hrun := Go.Lib.run_append_nil_zeros (P := Tryz.prog) w 22 3 o.type 5 i0 (.int .u8 0) .i64 .i64 Tryz.underlying22 Tryz.underlying3 hi hz0 n h0 (by rw [hz1]; omega) (by omega) (by rw [hz2]; omega)
  have hge := grownCap_ge w n 0 5
  have hle := grownCap_le_maxLen w n 0 5 (by unfold maxLen; omega)
  unfold maxLen at hle
  unfold Oper.wp
  simp only [execOp, ho, resolve, invoke, builtin]
  simp [hrun, hs, hx, Result.andThen]
  refine hK' _ _ (h _ _ hge hle ?_ ?_)
  · refine ⟨By.nil, World.ownsRow_made w.drew _ _ (Nat.le_refl _) (by unfold maxLen; omega) ?_⟩
    simp [size_zeroCells]
    rw [show (Value.int IntKind.u8 0).cells.size = 1 from rfl]
    omega
  · exact ((Below.refl _ _).drew).alloc (Nat.le_refl _) _
set_option maxHeartbeats 1000000 in
set_option maxRecDepth 100000 in
theorem grow_ok (n : Nat) (w : World) (h0 : 0 < n) (hl : n ≤ 140737488355328) :
    Calls Tryz.prog 87 #[.slice none 0 0, .int .i64 n] w fun e w' => (∃ u, e = .returned u ∧ OwnB w' w.heap.size u []) ∧ Below w.heap.size w w' := by
  have d1 : ((n : Int) < 0) = False := by simp
  have d2 : (0 : Int) < (n : Int) := by omega
  go_enter Tryz.func87, Tryz.ntmps87
  go_wp2_with (at_builtin; refine appMk rfl _ _ rfl n _ (by rfl) (by rfl) rfl h0 hl ?_; intro cap w1 c1 c2 o1 b1)
  go_ret
  exact ⟨⟨_, rfl, o1⟩, b1⟩
set_option maxHeartbeats 1000000 in
set_option maxRecDepth 100000 in
theorem concat_ok (b off : Nat) (v1 v2 : Value) (xs ys : List Nat) (w : World) (c1 : w.cell? ⟨b, off, none⟩ = some v1) (c2 : w.cell? ⟨b, off + 1, none⟩ = some v2) (h1 : Bs w v1 xs) (h2 : Bs w v2 ys) (h0 : 0 < xs.length) (hl : xs.length + ys.length ≤ 140737488355328) :
    Calls Tryz.prog 59 #[.slice (some ⟨b, off, none⟩) 2 2] w fun e w' => (∃ u, e = .returned u ∧ OwnB w' w.heap.size u (xs ++ ys)) ∧ Below w.heap.size w w' := by
  obtain ⟨l1, hl1⟩ : ∃ l, l = xs.length := ⟨_, rfl⟩
  obtain ⟨l2, hl2⟩ : ∃ l, l = ys.length := ⟨_, rfl⟩
  obtain ⟨a1, k1, rfl, g1, g2⟩ : ∃ a c, v1 = .slice a l1 c ∧ l1 ≤ c ∧ c ≤ 9223372036854775807 := by obtain ⟨_, a, c, e, h1, h2, _⟩ := h1; exact ⟨a, c, by rw [hl1]; exact e, by rw [hl1]; exact h1, h2⟩
  obtain ⟨a2, k2, rfl, g3, g4⟩ : ∃ a c, v2 = .slice a l2 c ∧ l2 ≤ c ∧ c ≤ 9223372036854775807 := by obtain ⟨_, a, c, e, h1, h2, _⟩ := h2; exact ⟨a, c, by rw [hl2]; exact e, by rw [hl2]; exact h1, h2⟩
  have HX := (show Hid _ from h1)
  have HY := (show Hid _ from h2)
  have HL1 := (show Hid _ from hl1)
  have HL2 := (show Hid _ from hl2)
  have hb := World.block_lt_of_cell? w _ c1
  rw [← hl1] at h0 hl
  rw [← hl2] at hl
  clear h1 h2 hl1 hl2
  go_enter Tryz.func59, Tryz.ntmps59
  go_wp2_with fail
  go_loop [3, 11] (fun s i => (i = .int .i64 0 ∧ s = .int .i64 0) ∨ (i = .int .i64 1 ∧ s = .int .i64 l1) ∨ (i = .int .i64 2 ∧ s = .int .i64 ((l1 + l2 : Nat) : Int))) (fun _ i => 2 - (intOf i).toNat)
  case atStart => exact Or.inl ⟨rfl, rfl⟩
  case round =>
    rcases hrel with ⟨rfl, rfl⟩ | ⟨rfl, rfl⟩ | ⟨rfl, rfl⟩
    · have d1 : ((l1 : Int) < 0) = False := by simp
      go_wp2_with fail
      exact ⟨Or.inr (Or.inl ⟨rfl, rfl⟩), by simp [intOf]⟩
    · have d1 : ((l1 : Int) + (l2 : Int) < 0) = False := by simp; omega
      go_wp2_with fail
      exact ⟨Or.inr (Or.inr ⟨rfl, by go_num⟩), by simp [intOf]⟩
    · go_wp2_with fail
      refine (grow_ok (l1 + l2) _ (by omega) hl).mono ?_
      rintro e w2 ⟨⟨u, rfl, o2⟩, b2⟩
      have HO := (show Hid _ from o2)
      have HB := (show Hid _ from b2)
      clear o2 b2
      go_wp2_with fail
      go_loopw [6, 27] (fun s i wr => ((i = .int .i64 0 ∧ Hid (OwnB wr w.heap.size s [])) ∨ (i = .int .i64 1 ∧ Hid (OwnB wr w.heap.size s xs)) ∨ (i = .int .i64 2 ∧ Hid (OwnB wr w.heap.size s (xs ++ ys)))) ∧ Hid (Below w.heap.size w wr)) (fun _ i _ => 2 - (intOf i).toNat)
      case atStart => exact ⟨Or.inl ⟨rfl, HO⟩, HB⟩
      case round =>
        obtain ⟨hrel, BB⟩ := hrel
        have y1 := (BB.out.cell (p := ⟨b, off, none⟩) hb).trans c1
        have y2 := (BB.out.cell (p := ⟨b, off + 1, none⟩) hb).trans c2
        have lz := BB.out.size
        rcases hrel with ⟨rfl, O⟩ | ⟨rfl, O⟩ | ⟨rfl, O⟩
        · go_wp2_with (at_builtin; refine appB rfl _ _ rfl w.heap.size [] xs _ _ (by rfl) (by rfl) O.out (HX.out.step BB.out) lz (by have := HL1.out; simp; omega) ?_; intro v3 w3 o3 b3)
          exact ⟨⟨Or.inr (Or.inl ⟨rfl, o3⟩), BB.out.trans b3⟩, by simp [intOf]⟩
        · go_wp2_with (at_builtin; refine appB rfl _ _ rfl w.heap.size xs ys _ _ (by rfl) (by rfl) O.out (HY.out.step BB.out) lz (by have := HL1.out; have := HL2.out; omega) ?_; intro v3 w3 o3 b3)
          exact ⟨⟨Or.inr (Or.inr ⟨rfl, o3⟩), BB.out.trans b3⟩, by simp [intOf]⟩
        · go_wp2_with fail
          go_ret
          exact ⟨⟨_, rfl, O.out⟩, BB.out⟩
end Go.Proofs.YtkmdegmpffgplaaGreatDoor
/- parts X: names (Name: a letter and twelve digits). -/
namespace Go.Proofs.YtkmdegmpffgplaaGreatDoor
open Go.RowKit Go.Shelf pk
set_option linter.unusedVariables false
set_option linter.unusedSimpArgs false

shelf_lay LaysM.n173 Nm 173 at Tryz as laysM173
shelf_lay Lays.n105 Nm 105 at Tryz as lays105
theorem bx105 : Builder.Extra Tryz.prog lays105_ren where
  sizeBuilder := by kernel_rfl
  liesBuilder := by kernel_rfl
  t5 := Tryz.underlying5
  a5 := Tryz.isAgg5
  z5 := Tryz.sizeOf5
  v5 := Tryz.zeroValue5
  infoByte := by kernel_rfl
  cellsByte := by kernel_rfl
  sizeByte := by kernel_rfl
  neB5 := by decide
/-- the library's table of powers of ten -/
def Pt10 (w : World) : Prop := Lib.TabIs Tryz.prog w "internal/strconv.uint64pow10" .u64 Lib.pow10Tab
theorem Pt10.on {w w' : World} (h : Pt10 w) (hb : Below w.heap.size w w') : Pt10 w' := (Lib.tabBelow_of_tabIs h) w' hb
theorem fmt_ok (v : Nat) (w : World) (h : v ≤ 99999999) (hT : Pt10 w) :
    Calls Tryz.prog 102 #[.int .i64 (v : Int), .int .i64 10] w fun e w' => e = .returned (.string ⟨(Lib.decDigits v).toArray⟩) ∧ Below w.heap.size w w' := by
  refine (Any.strconv_FormatInt_10 laysM173 (v : Int) (by omega) (by omega) w hT).mono ?_
  rintro e w' ⟨rfl, k, os, rfl⟩
  refine ⟨?_, Lib.below_grow _ _ (Nat.le_refl _) _ _⟩
  have h0 : ¬ (v : Int) < 0 := by omega
  simp [Lib.itoa, h0]
theorem repeat_ok (c : Nat) (w : World) (hc : c ≤ 8) :
    Calls Tryz.prog 103 #[.string ⟨#[48]⟩, .int .i64 (c : Int)] w fun e w' => e = .returned (.string ⟨(List.replicate c (48 : UInt8)).toArray⟩) ∧ Below w.heap.size w w' := by
  refine (Any.strings_Repeat lays105 bx105 ⟨#[48]⟩ c w (by omega) (by show 1 * c ≤ _; omega)).mono ?_
  rintro e w' ⟨rfl, hb⟩
  refine ⟨?_, hb⟩
  have := Lib.repeatL_replicate 48 1 c
  rw [Nat.mul_one] at this
  rw [← this]
  rfl
/-- the k lowest digits of v -/
def dgL : Nat → Nat → List UInt8
  | 0, _ => []
  | k + 1, v => dgL k (v / 10) ++ [UInt8.ofNat (48 + v % 10)]
theorem dgL_len : ∀ k v, (dgL k v).length = k
  | 0, _ => rfl
  | k + 1, v => by unfold dgL; rw [List.length_append, dgL_len k]; rfl
theorem dgL_zero : ∀ k, dgL k 0 = List.replicate k 48
  | 0 => rfl
  | k + 1 => by unfold dgL; rw [show 0 / 10 = 0 from rfl, dgL_zero k]; exact (List.replicate_succ' ..).symm
theorem dgL_dec : ∀ k v, v < 10 ^ (k + 1) → (Lib.decDigits v).length ≤ k + 1 ∧ dgL (k + 1) v = List.replicate (k + 1 - (Lib.decDigits v).length) 48 ++ Lib.decDigits v
  | 0, v, h => by
    have h1 : v < 10 := by simpa using h
    rw [Lib.decDigits_one h1]
    have : v % 10 = v := by omega
    simp [dgL, this]
  | k + 1, v, h => by
    by_cases h1 : v < 10
    · rw [Lib.decDigits_one h1]
      unfold dgL
      rw [show v / 10 = 0 by omega, dgL_zero, show v % 10 = v by omega]
      exact ⟨by simp, rfl⟩
    · obtain ⟨i1, i2⟩ := dgL_dec k (v / 10) (by rw [Nat.pow_succ] at h; omega)
      rw [Lib.decDigits, dif_neg h1]
      unfold dgL
      rw [i2]
      refine ⟨by simp; omega, ?_⟩
      rw [List.append_assoc]
      congr 2
      simp
/-- the name of a segment -/
def nmS (n : Nat) : List UInt8 := 108 :: dgL 8 n
theorem nmS_len (n : Nat) : (nmS n).length = 9 := by unfold nmS; rw [List.length_cons, dgL_len]
theorem nmS_eq (n : Nat) (h : n ≤ 99999999) : nmS n = [108] ++ List.replicate (8 - (Lib.decDigits n).length) 48 ++ Lib.decDigits n := by
  unfold nmS
  rw [(dgL_dec 7 n (by omega)).2]
  rfl
set_option maxRecDepth 100000 in
set_option maxHeartbeats 1000000 in
theorem pname_ok (n : Nat) (w : World) (h : n ≤ 99999999) (hT : Pt10 w) :
    Calls Tryz.prog 80 #[.string ⟨#[108]⟩, .int .i64 8, .int .i64 (n : Int)] w fun e w' => e = .returned (.string ⟨(nmS n).toArray⟩) ∧ Below w.heap.size w w' := by
  have HT : Hid (Pt10 w) := hT
  have HN : Hid (n ≤ 99999999) := h
  obtain ⟨l, hl⟩ : ∃ l, l = (Lib.decDigits n).length := ⟨_, rfl⟩
  have hl12 : l ≤ 8 := by rw [hl]; exact (dgL_dec 7 n (by omega)).1
  have HL : Hid (l = (Lib.decDigits n).length) := hl
  clear hl hT
  go_enter Tryz.func80, Tryz.ntmps80
  go_wp2_with fail
  refine (fmt_ok n _ HN.out HT.out).mono ?_
  rintro e w1 ⟨rfl, b1⟩
  go_wp2_with fail
  rw [show max 0 (wrap64 (8 - ((Lib.decDigits n).length : Int))) = ((8 - l : Nat) : Int) by
    rw [← HL.out]
    unfold wrap64
    omega]
  refine (repeat_ok (8 - l) _ (by omega)).mono ?_
  rintro e w2 ⟨rfl, b2⟩
  have HE : Hid (nmS n = [108] ++ List.replicate (8 - l) 48 ++ Lib.decDigits n) := by rw [HL.out]; exact nmS_eq n HN.out
  have hdl : (Lib.decDigits n).length ≤ 8 := by rw [← HL.out]; exact hl12
  go_wp2_with fail
  go_ret
  refine ⟨?_, b1.trans (b2.mono b1.size)⟩
  rw [HE.out]
  have ej : ∀ a b c : Array UInt8, (⟨a⟩ ++ ⟨b⟩ ++ ⟨c⟩ : ByteArray) = ⟨a ++ b ++ c⟩ := fun a b c => by apply ByteArray.ext; rw [ByteArray.data_append, ByteArray.data_append]
  show Ending.returned (.string (_ ++ _ ++ _)) = _
  rw [ej]
  simp
set_option maxRecDepth 100000 in
theorem sname_ok (n : Nat) (w : World) (h : n ≤ 99999999) (hT : Pt10 w) :
    Calls Tryz.prog 49 #[.int .i64 (n : Int)] w fun e w' => e = .returned (.string ⟨(nmS n).toArray⟩) ∧ Below w.heap.size w w' := by
  go_enter Tryz.func49, Tryz.ntmps49
  go_wp2_with fail
  refine (pname_ok n _ h hT).mono ?_
  rintro e w1 ⟨rfl, b1⟩
  go_wp2_with fail
  go_ret
  exact ⟨rfl, b1⟩
end Go.Proofs.YtkmdegmpffgplaaGreatDoor
