/- parts X: names (Name: a letter and twelve digits). -/
import Derived.Test.YtkmdegmpffgplaaGreatDoorLay
import Derived.Shelf.Lay
import Derived.Ground.NamesProg
import Derived.Shelf.LaysM
import Derived.Shelf.Strconv.Itoa4
import Derived.Shelf.Strings.Repeat
import Derived.Lib.AppendIntMem
import Derived.Lib.SmallJoins
import Derived.Shelf.Small.Wraps
namespace Go.Proofs.YtkmdegmpffgplaaGreatDoor
open Go.RowKit Go.Shelf pk
set_option linter.unusedVariables false
set_option linter.unusedSimpArgs false

shelf_lay LaysM.n173 Nm 173 at Tryz as laysM173
shelf_lay Lays.n105 Nm 105 at Tryz as lays105
theorem bx105 : Builder.Extra Tryz.prog lays105_ren where
  sizeBuilder := by kernel_rfl
  liesBuilder := by kernel_rfl
  t5 := Tryz.underlying5
  a5 := Tryz.isAgg5
  z5 := Tryz.sizeOf5
  v5 := Tryz.zeroValue5
  infoByte := by kernel_rfl
  cellsByte := by kernel_rfl
  sizeByte := by kernel_rfl
  neB5 := by decide
/-- the library's table of powers of ten -/
def Pt10 (w : World) : Prop := Lib.TabIs Tryz.prog w "internal/strconv.uint64pow10" .u64 Lib.pow10Tab
theorem Pt10.on {w w' : World} (h : Pt10 w) (hb : Below w.heap.size w w') : Pt10 w' := (Lib.tabBelow_of_tabIs h) w' hb
theorem fmt_ok (v : Nat) (w : World) (h : v ≤ 99999999) (hT : Pt10 w) :
    Calls Tryz.prog 102 #[.int .i64 (v : Int), .int .i64 10] w fun e w' => e = .returned (.string ⟨(Lib.decDigits v).toArray⟩) ∧ Below w.heap.size w w' := by
  refine (Any.strconv_FormatInt_10 laysM173 (v : Int) (by omega) (by omega) w hT).mono ?_
  rintro e w' ⟨rfl, k, os, rfl⟩
  refine ⟨?_, Lib.below_grow _ _ (Nat.le_refl _) _ _⟩
  have h0 : ¬ (v : Int) < 0 := by omega
  simp [Lib.itoa, h0]
theorem repeat_ok (c : Nat) (w : World) (hc : c ≤ 8) :
    Calls Tryz.prog 103 #[.string ⟨#[48]⟩, .int .i64 (c : Int)] w fun e w' => e = .returned (.string ⟨(List.replicate c (48 : UInt8)).toArray⟩) ∧ Below w.heap.size w w' := by
  refine (Any.strings_Repeat lays105 bx105 ⟨#[48]⟩ c w (by omega) (by show 1 * c ≤ _; omega)).mono ?_
  rintro e w' ⟨rfl, hb⟩
  refine ⟨?_, hb⟩
  have := Lib.repeatL_replicate 48 1 c
  rw [Nat.mul_one] at this
  rw [← this]
  rfl
/-- the k lowest digits of v -/
def dgL : Nat → Nat → List UInt8
  | 0, _ => []
  | k + 1, v => dgL k (v / 10) ++ [UInt8.ofNat (48 + v % 10)]
theorem dgL_len : ∀ k v, (dgL k v).length = k
  | 0, _ => rfl
  | k + 1, v => by unfold dgL; rw [List.length_append, dgL_len k]; rfl
theorem dgL_zero : ∀ k, dgL k 0 = List.replicate k 48
  | 0 => rfl
  | k + 1 => by unfold dgL; rw [show 0 / 10 = 0 from rfl, dgL_zero k]; exact (List.replicate_succ' ..).symm
theorem dgL_dec : ∀ k v, v < 10 ^ (k + 1) → (Lib.decDigits v).length ≤ k + 1 ∧ dgL (k + 1) v = List.replicate (k + 1 - (Lib.decDigits v).length) 48 ++ Lib.decDigits v
  | 0, v, h => by
    have h1 : v < 10 := by simpa using h
    rw [Lib.decDigits_one h1]
    have : v % 10 = v := by omega
    simp [dgL, this]
  | k + 1, v, h => by
    by_cases h1 : v < 10
    · rw [Lib.decDigits_one h1]
      unfold dgL
      rw [show v / 10 = 0 by omega, dgL_zero, show v % 10 = v by omega]
      exact ⟨by simp, rfl⟩
    · obtain ⟨i1, i2⟩ := dgL_dec k (v / 10) (by rw [Nat.pow_succ] at h; omega)
      rw [Lib.decDigits, dif_neg h1]
      unfold dgL
      rw [i2]
      refine ⟨by simp; omega, ?_⟩
      rw [List.append_assoc]
      congr 2
      simp
/-- the name of a segment -/
def nmS (n : Nat) : List UInt8 := 108 :: dgL 8 n
theorem nmS_len (n : Nat) : (nmS n).length = 9 := by unfold nmS; rw [List.length_cons, dgL_len]
theorem nmS_eq (n : Nat) (h : n ≤ 99999999) : nmS n = [108] ++ List.replicate (8 - (Lib.decDigits n).length) 48 ++ Lib.decDigits n := by
  unfold nmS
  rw [(dgL_dec 7 n (by omega)).2]
  rfl
set_option maxRecDepth 100000 in
set_option maxHeartbeats 1000000 in
theorem pname_ok (n : Nat) (w : World) (h : n ≤ 99999999) (hT : Pt10 w) :
    Calls Tryz.prog 80 #[.string ⟨#[108]⟩, .int .i64 8, .int .i64 (n : Int)] w fun e w' => e = .returned (.string ⟨(nmS n).toArray⟩) ∧ Below w.heap.size w w' := by
  have HT : Hid (Pt10 w) := hT
  have HN : Hid (n ≤ 99999999) := h
  obtain ⟨l, hl⟩ : ∃ l, l = (Lib.decDigits n).length := ⟨_, rfl⟩
  have hl12 : l ≤ 8 := by rw [hl]; exact (dgL_dec 7 n (by omega)).1
  have HL : Hid (l = (Lib.decDigits n).length) := hl
  clear hl hT
  go_enter Tryz.func80, Tryz.ntmps80
  go_wp2_with fail
  refine (fmt_ok n _ HN.out HT.out).mono ?_
  rintro e w1 ⟨rfl, b1⟩
  go_wp2_with fail
  rw [show max 0 (wrap64 (8 - ((Lib.decDigits n).length : Int))) = ((8 - l : Nat) : Int) by
    rw [← HL.out]
    unfold wrap64
    omega]
  refine (repeat_ok (8 - l) _ (by omega)).mono ?_
  rintro e w2 ⟨rfl, b2⟩
  have HE : Hid (nmS n = [108] ++ List.replicate (8 - l) 48 ++ Lib.decDigits n) := by rw [HL.out]; exact nmS_eq n HN.out
  have hdl : (Lib.decDigits n).length ≤ 8 := by rw [← HL.out]; exact hl12
  go_wp2_with fail
  go_ret
  refine ⟨?_, b1.trans (b2.mono b1.size)⟩
  rw [HE.out]
  have ej : ∀ a b c : Array UInt8, (⟨a⟩ ++ ⟨b⟩ ++ ⟨c⟩ : ByteArray) = ⟨a ++ b ++ c⟩ := fun a b c => by apply ByteArray.ext; rw [ByteArray.data_append, ByteArray.data_append]
  show Ending.returned (.string (_ ++ _ ++ _)) = _
  rw [ej]
  simp
set_option maxRecDepth 100000 in
theorem sname_ok (n : Nat) (w : World) (h : n ≤ 99999999) (hT : Pt10 w) :
    Calls Tryz.prog 49 #[.int .i64 (n : Int)] w fun e w' => e = .returned (.string ⟨(nmS n).toArray⟩) ∧ Below w.heap.size w w' := by
  go_enter Tryz.func49, Tryz.ntmps49
  go_wp2_with fail
  refine (pname_ok n _ h hT).mono ?_
  rintro e w1 ⟨rfl, b1⟩
  go_wp2_with fail
  go_ret
  exact ⟨rfl, b1⟩
end Go.Proofs.YtkmdegmpffgplaaGreatDoor
/- parts XI: number. -/
namespace Go.Proofs.YtkmdegmpffgplaaGreatDoor
open Go.RowKit Go.Shelf pk
set_option linter.unusedVariables false
set_option linter.unusedSimpArgs false

shelf_lay Lays.n103 Nm 103 at Tryz as lays103
theorem cutp_yes (c : UInt8) (T : ByteArray) (w : World) : Calls Tryz.prog 99 #[.string ⟨(c :: T.data.toList).toArray⟩, .string ⟨#[c]⟩] w fun e w' => e = .returned (.tuple #[.string T, .bool true]) ∧ w' = w := by
  refine (Any.strings_CutPrefix lays103 _ _ w).mono ?_
  rintro e w' ⟨rfl, rfl⟩
  refine ⟨?_, rfl⟩
  have h1 : Lib.hasPrefix (c :: T.data.toList) [c] = true := by simp [Lib.hasPrefix]
  simp [Lib.trimPrefix, h1]
theorem cutp_no (c d : UInt8) (w : World) (h : c ≠ d) : Calls Tryz.prog 99 #[.string ⟨#[d]⟩, .string ⟨#[c]⟩] w fun e w' => (∃ t, e = .returned (.tuple #[.string t, .bool false])) ∧ w' = w := by
  refine (Any.strings_CutPrefix lays103 _ _ w).mono ?_
  rintro e w' ⟨rfl, rfl⟩
  have h1 : Lib.hasPrefix [d] [c] = false := by show ((c == d) && _) = false; simp [h]
  exact ⟨⟨⟨(Lib.trimPrefix [d] [c]).toArray⟩, by rw [← h1]⟩, rfl⟩
set_option maxRecDepth 100000 in
set_option maxHeartbeats 1000000 in
theorem number_go (T : ByteArray) (w : World) (hT : T.size = 8) (hd : ∀ i (h : i < T.size), 48 ≤ (T[i]).toNat ∧ (T[i]).toNat ≤ 57)
    (G : Nat → Nat) (h0 : G 0 = 0) (hs : ∀ i (h : i < T.size), G (i + 1) = 10 * G i + ((T[i]).toNat - 48)) (hb : ∀ i, i ≤ 8 → G i ≤ 99999999) :
    Calls Tryz.prog 76 #[.string ⟨#[108]⟩, .int .i64 8, .string ⟨(108 :: T.data.toList).toArray⟩] w fun e w' => e = .returned (.tuple #[.int .i64 (G 8 : Int), .bool true]) ∧ w' = w := by
  have HD := (show Hid _ from hd)
  have HS := (show Hid _ from hs)
  have HBD := (show Hid _ from hb)
  have H0 : Hid (G 0 = 0) := h0
  clear hd hs hb h0
  go_enter Tryz.func76, Tryz.ntmps76
  go_wp2_with fail
  refine (cutp_yes 108 T _).mono ?_
  rintro e w1 ⟨rfl, rfl⟩
  go_wp2_with fail
  go_loop [10, 28] (fun n i => ∃ k : Nat, k ≤ 8 ∧ i = .int .i64 (k : Int) ∧ n = .int .i64 (G k : Int)) (fun _ i => 8 - (intOf i).toNat)
  case atStart => exact ⟨0, by omega, rfl, by rw [H0.out]; rfl⟩
  case round =>
    obtain ⟨k, hk, rfl, rfl⟩ := hrel
    rcases Nat.lt_or_ge k 8 with hlt | hge
    · have hkT : k < T.size := by omega
      obtain ⟨q1, q2⟩ := HD.out k hkT
      have HG := (show Hid _ from HS.out k hkT)
      have g1 := HBD.out k hk
      have g2 := HBD.out (k + 1) (by omega)
      obtain ⟨t, ht⟩ : ∃ t, (T[k]).toNat = t := ⟨_, rfl⟩
      go_wp2_with fail
      refine ⟨⟨k + 1, by omega, by simp, ?_⟩, by simp [intOf]; omega⟩
      rw [HG.out]
      congr 1
      omega
    · obtain rfl : k = 8 := by omega
      go_wp2_with fail
      refine bodyPost_ret (v := .tuple #[.int .i64 (G 8 : Int), .bool true]) (by simp [results, Tryz.results76, go_sem]) rfl ?_
      exact ⟨rfl, rfl⟩
set_option maxRecDepth 100000 in
theorem number_no (w : World) : Calls Tryz.prog 76 #[.string ⟨#[108]⟩, .int .i64 8, .string ⟨#[116]⟩] w fun e w' => e = .returned (.tuple #[.int .i64 0, .bool false]) ∧ w' = w := by
  go_enter Tryz.func76, Tryz.ntmps76
  go_wp2_with fail
  refine (cutp_no 108 116 _ (by decide)).mono ?_
  rintro e w1 ⟨⟨t, rfl⟩, rfl⟩
  go_wp2_with fail
  refine bodyPost_ret (v := .tuple #[.int .i64 0, .bool false]) (by simp [results, Tryz.results76, go_sem]) rfl ?_
  exact ⟨rfl, rfl⟩
theorem dgL_get : ∀ k v i, i < k → (dgL k v)[i]? = some (UInt8.ofNat (48 + v / 10 ^ (k - 1 - i) % 10))
  | 0, _, i, h => by omega
  | k + 1, v, i, h => by
    unfold dgL
    rcases Nat.lt_or_ge i k with h1 | h1
    · rw [List.getElem?_append_left (by rw [dgL_len]; exact h1), dgL_get k (v / 10) i h1, Nat.div_div_eq_div_mul, ← Nat.pow_succ']
      rw [show (k - 1 - i).succ = k + 1 - 1 - i by omega]
    · obtain rfl : i = k := by omega
      rw [List.getElem?_append_right (by rw [dgL_len]; exact Nat.le_refl _), dgL_len]
      simp
theorem number_yes (n : Nat) (h : n ≤ 99999999) (w : World) : Calls Tryz.prog 76 #[.string ⟨#[108]⟩, .int .i64 8, .string ⟨(nmS n).toArray⟩] w fun e w' => e = .returned (.tuple #[.int .i64 (n : Int), .bool true]) ∧ w' = w := by
  have hsz : (⟨(dgL 8 n).toArray⟩ : ByteArray).size = 8 := by show (dgL 8 n).toArray.size = 8; simp [dgL_len]
  have hg : ∀ i (hi : i < (⟨(dgL 8 n).toArray⟩ : ByteArray).size), ((⟨(dgL 8 n).toArray⟩ : ByteArray)[i]).toNat = 48 + n / 10 ^ (7 - i) % 10 := fun i hi => by
    have e := dgL_get 8 n i (by omega)
    have e2 : (⟨(dgL 8 n).toArray⟩ : ByteArray)[i] = (dgL 8 n)[i]'(by rw [dgL_len]; omega) := rfl
    rw [e2, (List.getElem_eq_iff _).2 e]
    show (48 + n / 10 ^ (8 - 1 - i) % 10) % 256 = _
    rw [show 8 - 1 - i = 7 - i by omega]
    have : n / 10 ^ (7 - i) % 10 < 10 := Nat.mod_lt _ (by omega)
    omega
  have hh := number_go ⟨(dgL 8 n).toArray⟩ w hsz (fun i hi => by rw [hg i hi]; have : n / 10 ^ (7 - i) % 10 < 10 := Nat.mod_lt _ (by omega); omega) (fun i => n / 10 ^ (8 - i)) (by simp; omega) (fun i hi => by
    rw [hg i hi]
    have e1 : 8 - i = 7 - i + 1 := by omega
    have e2 : 8 - (i + 1) = 7 - i := by omega
    simp only [e1, e2]
    rw [Nat.pow_succ, ← Nat.div_div_eq_div_mul]
    omega) (fun i hi => Nat.le_trans (Nat.div_le_self _ _) h)
  simpa [nmS] using hh
end Go.Proofs.YtkmdegmpffgplaaGreatDoor
