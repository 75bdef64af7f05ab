/- parts XI: number. -/
import Derived.Test.YtkmdegmpffgplaaGreatDoorLay
import Derived.Shelf.Small.Wraps
import Derived.Test.YtkmdegmpffgplaaGreatDoorLax
import Derived.Test.YtkmdegmpffgplaaGreatDoorLap
import Derived.Test.YtkmdegmpffgplaaGreatDoorLab
import Derived.Test.YtkmdegmpffgplaaGreatDoorLac
import Derived.Deep.MidRow
namespace Go.Proofs.YtkmdegmpffgplaaGreatDoor
open Go.RowKit Go.Shelf pk
set_option linter.unusedVariables false
set_option linter.unusedSimpArgs false

shelf_lay Lays.n103 Nm 103 at Tryz as lays103
theorem cutp_yes (c : UInt8) (T : ByteArray) (w : World) : Calls Tryz.prog 99 #[.string ⟨(c :: T.data.toList).toArray⟩, .string ⟨#[c]⟩] w fun e w' => e = .returned (.tuple #[.string T, .bool true]) ∧ w' = w := by
  refine (Any.strings_CutPrefix lays103 _ _ w).mono ?_
  rintro e w' ⟨rfl, rfl⟩
  refine ⟨?_, rfl⟩
  have h1 : Lib.hasPrefix (c :: T.data.toList) [c] = true := by simp [Lib.hasPrefix]
  simp [Lib.trimPrefix, h1]
theorem cutp_no (c d : UInt8) (w : World) (h : c ≠ d) : Calls Tryz.prog 99 #[.string ⟨#[d]⟩, .string ⟨#[c]⟩] w fun e w' => (∃ t, e = .returned (.tuple #[.string t, .bool false])) ∧ w' = w := by
  refine (Any.strings_CutPrefix lays103 _ _ w).mono ?_
  rintro e w' ⟨rfl, rfl⟩
  have h1 : Lib.hasPrefix [d] [c] = false := by show ((c == d) && _) = false; simp [h]
  exact ⟨⟨⟨(Lib.trimPrefix [d] [c]).toArray⟩, by rw [← h1]⟩, rfl⟩
set_option maxRecDepth 100000 in
set_option maxHeartbeats 1000000 in
theorem number_go (T : ByteArray) (w : World) (hT : T.size = 8) (hd : ∀ i (h : i < T.size), 48 ≤ (T[i]).toNat ∧ (T[i]).toNat ≤ 57)
    (G : Nat → Nat) (h0 : G 0 = 0) (hs : ∀ i (h : i < T.size), G (i + 1) = 10 * G i + ((T[i]).toNat - 48)) (hb : ∀ i, i ≤ 8 → G i ≤ 99999999) :
    Calls Tryz.prog 76 #[.string ⟨#[108]⟩, .int .i64 8, .string ⟨(108 :: T.data.toList).toArray⟩] w fun e w' => e = .returned (.tuple #[.int .i64 (G 8 : Int), .bool true]) ∧ w' = w := by
  have HD := (show Hid _ from hd)
  have HS := (show Hid _ from hs)
  have HBD := (show Hid _ from hb)
  have H0 : Hid (G 0 = 0) := h0
  clear hd hs hb h0
  go_enter Tryz.func76, Tryz.ntmps76
  go_wp2_with fail
  refine (cutp_yes 108 T _).mono ?_
  rintro e w1 ⟨rfl, rfl⟩
  go_wp2_with fail
  go_loop [10, 28] (fun n i => ∃ k : Nat, k ≤ 8 ∧ i = .int .i64 (k : Int) ∧ n = .int .i64 (G k : Int)) (fun _ i => 8 - (intOf i).toNat)
  case atStart => exact ⟨0, by omega, rfl, by rw [H0.out]; rfl⟩
  case round =>
    obtain ⟨k, hk, rfl, rfl⟩ := hrel
    rcases Nat.lt_or_ge k 8 with hlt | hge
    · have hkT : k < T.size := by omega
      obtain ⟨q1, q2⟩ := HD.out k hkT
      have HG := (show Hid _ from HS.out k hkT)
      have g1 := HBD.out k hk
      have g2 := HBD.out (k + 1) (by omega)
      obtain ⟨t, ht⟩ : ∃ t, (T[k]).toNat = t := ⟨_, rfl⟩
      go_wp2_with fail
      refine ⟨⟨k + 1, by omega, by simp, ?_⟩, by simp [intOf]; omega⟩
      rw [HG.out]
      congr 1
      omega
    · obtain rfl : k = 8 := by omega
      go_wp2_with fail
      refine bodyPost_ret (v := .tuple #[.int .i64 (G 8 : Int), .bool true]) (by simp [results, Tryz.results76, go_sem]) rfl ?_
      exact ⟨rfl, rfl⟩
set_option maxRecDepth 100000 in
theorem number_no (w : World) : Calls Tryz.prog 76 #[.string ⟨#[108]⟩, .int .i64 8, .string ⟨#[116]⟩] w fun e w' => e = .returned (.tuple #[.int .i64 0, .bool false]) ∧ w' = w := by
  go_enter Tryz.func76, Tryz.ntmps76
  go_wp2_with fail
  refine (cutp_no 108 116 _ (by decide)).mono ?_
  rintro e w1 ⟨⟨t, rfl⟩, rfl⟩
  go_wp2_with fail
  refine bodyPost_ret (v := .tuple #[.int .i64 0, .bool false]) (by simp [results, Tryz.results76, go_sem]) rfl ?_
  exact ⟨rfl, rfl⟩
theorem dgL_get : ∀ k v i, i < k → (dgL k v)[i]? = some (UInt8.ofNat (48 + v / 10 ^ (k - 1 - i) % 10))
  | 0, _, i, h => by omega
  | k + 1, v, i, h => by
    unfold dgL
    rcases Nat.lt_or_ge i k with h1 | h1
    · rw [List.getElem?_append_left (by rw [dgL_len]; exact h1), dgL_get k (v / 10) i h1, Nat.div_div_eq_div_mul, ← Nat.pow_succ']
      rw [show (k - 1 - i).succ = k + 1 - 1 - i by omega]
    · obtain rfl : i = k := by omega
      rw [List.getElem?_append_right (by rw [dgL_len]; exact Nat.le_refl _), dgL_len]
      simp
theorem number_yes (n : Nat) (h : n ≤ 99999999) (w : World) : Calls Tryz.prog 76 #[.string ⟨#[108]⟩, .int .i64 8, .string ⟨(nmS n).toArray⟩] w fun e w' => e = .returned (.tuple #[.int .i64 (n : Int), .bool true]) ∧ w' = w := by
  have hsz : (⟨(dgL 8 n).toArray⟩ : ByteArray).size = 8 := by show (dgL 8 n).toArray.size = 8; simp [dgL_len]
  have hg : ∀ i (hi : i < (⟨(dgL 8 n).toArray⟩ : ByteArray).size), ((⟨(dgL 8 n).toArray⟩ : ByteArray)[i]).toNat = 48 + n / 10 ^ (7 - i) % 10 := fun i hi => by
    have e := dgL_get 8 n i (by omega)
    have e2 : (⟨(dgL 8 n).toArray⟩ : ByteArray)[i] = (dgL 8 n)[i]'(by rw [dgL_len]; omega) := rfl
    rw [e2, (List.getElem_eq_iff _).2 e]
    show (48 + n / 10 ^ (8 - 1 - i) % 10) % 256 = _
    rw [show 8 - 1 - i = 7 - i by omega]
    have : n / 10 ^ (7 - i) % 10 < 10 := Nat.mod_lt _ (by omega)
    omega
  have hh := number_go ⟨(dgL 8 n).toArray⟩ w hsz (fun i hi => by rw [hg i hi]; have : n / 10 ^ (7 - i) % 10 < 10 := Nat.mod_lt _ (by omega); omega) (fun i => n / 10 ^ (8 - i)) (by simp; omega) (fun i hi => by
    rw [hg i hi]
    have e1 : 8 - i = 7 - i + 1 := by omega
    have e2 : 8 - (i + 1) = 7 - i := by omega
    simp only [e1, e2]
    rw [Nat.pow_succ, ← Nat.div_div_eq_div_mul]
    omega) (fun i hi => Nat.le_trans (Nat.div_le_self _ _) h)
  simpa [nmS] using hh
end Go.Proofs.YtkmdegmpffgplaaGreatDoor
/- log I: the log in memory; its small methods. -/
namespace Go.Proofs.YtkmdegmpffgplaaGreatDoor
open Go.RowKit Go.Maps Go.Sort Go.Shelf pk
set_option linter.unusedVariables false
set_option linter.unusedSimpArgs false

/-- the cells of a link -/
def lnk (xs : List Nat) : List Value := (List.range 32).map fun i => .int .u8 (bt xs i)
theorem lnk_len (xs : List Nat) : (lnk xs).length = 32 := by simp [lnk]
theorem lnk_cl {xs : List Nat} (h : xs.length = 32) : cl xs = lnk xs := by
  refine List.ext_getElem? (fun i => ?_)
  by_cases hi : i < 32
  · rw [cl_get xs i (by omega)]
    simp [lnk, hi]
  · rw [List.getElem?_eq_none (by rw [cl_len]; omega), List.getElem?_eq_none (by rw [lnk_len]; omega)]
theorem lnk_one {xs : List Nat} {v : Value} (h : v ∈ lnk xs) : v.oneCell' = true := by
  unfold lnk at h
  obtain ⟨i, _, rfl⟩ := List.mem_map.1 h
  rfl
/-- the log in plain words -/
structure LG where
  per : Nat
  low : Nat
  high : Nat
  next : Nat
  last : List Nat
  ended : Bool
def LG.cells (g : LG) (p : Nat) : List Value := .pointer (some ⟨p, 0, none⟩) :: .int .i64 (g.per : Int) :: .int .i64 (g.low : Int) :: .int .i64 (g.high : Int) :: .int .i64 (g.next : Int) :: (lnk g.last ++ [.bool g.ended])
/-- .. and in memory -/
def Lg (w : World) (lp p : Nat) (g : LG) : Prop := VA w lp (g.cells p) 73
theorem Lg.step {w w' : World} {lp p : Nat} {g : LG} (h : Lg w lp p g) (k : Below w.heap.size w w') : Lg w' lp p g := VA.step h k
theorem Lg.kee {w w' : World} {lp p : Nat} {g : LG} (h : Lg w lp p g) (k : Kee w w') : Lg w' lp p g := VA.kee h k (by unfold Dt; decide)
structure LG.ok (g : LG) : Prop where
  per : 1 ≤ g.per ∧ g.per ≤ 1000
  low : g.low ≤ 100000000
  high : g.high ≤ 100000000
  next : g.next ≤ 200000000000
theorem firstOf_ok (w : World) (lp p : Nat) (g : LG) (h : Lg w lp p g) (ho : g.ok) (k : Nat) (hk : k ≤ 100000000) :
    Calls Tryz.prog 50 #[.pointer (some ⟨lp, 0, none⟩), .int .i64 (k : Int)] w fun e w' => e = .returned (.int .i64 ((k * g.per + 1 : Nat) : Int)) ∧ w' = w := by
  have y := h.cell 1 (v := .int .i64 (g.per : Int)) rfl
  have h1 := ho.per
  have h2 : k * g.per ≤ 100000000 * 1000 := Nat.mul_le_mul hk h1.2
  generalize g.per = per at *
  clear h ho
  have e1 : (k : Int) * (per : Int) = ((k * per : Nat) : Int) := by simp
  generalize k * per = q at *
  go_enter Tryz.func50, Tryz.ntmps50
  go_wp2_with fail
  go_ret
  exact ⟨rfl, rfl⟩
theorem lastOf_ok (w : World) (lp p : Nat) (g : LG) (h : Lg w lp p g) (ho : g.ok) (k : Nat) (hk : k ≤ 100000000) :
    Calls Tryz.prog 47 #[.pointer (some ⟨lp, 0, none⟩), .int .i64 (k : Int)] w fun e w' => e = .returned (.int .i64 (((k + 1) * g.per : Nat) : Int)) ∧ w' = w := by
  have y := h.cell 1 (v := .int .i64 (g.per : Int)) rfl
  have h1 := ho.per
  have h2 : (k + 1) * g.per ≤ 100000001 * 1000 := Nat.mul_le_mul (by omega) h1.2
  generalize g.per = per at *
  clear h ho
  have e1 : ((k : Int) + 1) * (per : Int) = (((k + 1) * per : Nat) : Int) := by simp
  generalize (k + 1) * per = q at *
  go_enter Tryz.func47, Tryz.ntmps47
  go_wp2_with fail
  go_ret
  exact ⟨rfl, rfl⟩
theorem segmentOf_ok (w : World) (lp p : Nat) (g : LG) (h : Lg w lp p g) (ho : g.ok) (n : Nat) (hn : 1 ≤ n) (hn2 : n ≤ 200000000000) :
    Calls Tryz.prog 61 #[.pointer (some ⟨lp, 0, none⟩), .int .i64 (n : Int)] w fun e w' => e = .returned (.int .i64 (((n - 1) / g.per : Nat) : Int)) ∧ w' = w := by
  have y := h.cell 1 (v := .int .i64 (g.per : Int)) rfl
  have h1 := ho.per
  generalize g.per = per at *
  clear h ho
  have e0 : ¬ (per : Int) = 0 := by omega
  have e1 : ((n : Int) - 1) / (per : Int) = (((n - 1) / per : Nat) : Int) := by rw [Int.natCast_ediv]; congr 1; omega
  have e2 : (n - 1) / per ≤ 200000000000 := Nat.le_trans (Nat.div_le_self _ _) (by omega)
  generalize (n - 1) / per = q at *
  go_enter Tryz.func61, Tryz.ntmps61
  go_wp2_with fail
  all_goals (go_ret; refine ⟨?_, rfl⟩; first | rfl | (show Ending.returned (Value.int IntKind.i64 (((n : Int) - 1) / (per : Int))) = _; rw [e1]))
theorem first_ok (w : World) (lp p : Nat) (g : LG) (h : Lg w lp p g) (ho : g.ok) :
    Calls Tryz.prog 16 #[.pointer (some ⟨lp, 0, none⟩)] w fun e w' => e = .returned (.int .i64 ((g.low * g.per + 1 : Nat) : Int)) ∧ w' = w := by
  have y := h.cell 2 (v := .int .i64 (g.low : Int)) rfl
  have HF := (show Hid _ from firstOf_ok w lp p g h ho g.low ho.low)
  generalize g.low * g.per + 1 = q at *
  generalize g.low = low at *
  clear h ho
  go_enter Tryz.func16, Tryz.ntmps16
  go_wp2_with fail
  refine Calls.mono HF.out ?_
  rintro e w1 ⟨rfl, rfl⟩
  go_wp2_with fail
  go_ret
  exact ⟨rfl, rfl⟩
theorem next_ok (w : World) (lp p : Nat) (g : LG) (h : Lg w lp p g) :
    Calls Tryz.prog 17 #[.pointer (some ⟨lp, 0, none⟩)] w fun e w' => e = .returned (.int .i64 (g.next : Int)) ∧ w' = w := by
  have y := h.cell 4 (v := .int .i64 (g.next : Int)) rfl
  generalize g.next = q at *
  clear h
  go_enter Tryz.func17, Tryz.ntmps17
  go_wp2_with fail
  go_ret
  exact ⟨rfl, rfl⟩
/-- is there no record? -/
def LG.empty (g : LG) : Bool := decide (g.next = g.low * g.per + 1)
set_option maxRecDepth 100000 in
theorem isEmpty_ok (w : World) (lp p : Nat) (g : LG) (h : Lg w lp p g) (ho : g.ok) :
    Calls Tryz.prog 60 #[.pointer (some ⟨lp, 0, none⟩)] w fun e w' => e = .returned (.bool g.empty) ∧ Below w.heap.size w w' := by
  have HL : Hid (Lg w lp p g) := h
  have HF := (show Hid _ from fun w' (k : Lg w' lp p g) => first_ok w' lp p g k ho)
  have e0 : ((g.next : Int) == ((g.low * g.per + 1 : Nat) : Int)) = g.empty := by
    unfold LG.empty
    rw [Bool.eq_iff_iff]
    simp
    omega
  have hn := ho.next
  have HEQ := (show Hid _ from e0)
  generalize g.empty = em at *
  generalize hq : g.low * g.per + 1 = q at *
  clear h ho e0 hq
  go_enter Tryz.func60, Tryz.ntmps60
  go_upto_region 1 with fail
  refine wp_region_noPanic ?_
  refine wp_region_held_drew (S := fun V => Lg V lp p g) (by kernel_rfl) (VA.drew HL.out) ?_
  intro hHeld
  have HB0 : Hid (Below w.heap.size w w.drew) := (Below.refl _ _).drew
  generalize w.drew = w0 at *
  refine takeD 0 3 (.pointer (some ⟨lp, 0, none⟩)) (by exact rfl) rfl (by kernel_rfl) (by kernel_rfl) (by kernel_rfl) (fun _ _ _ h => h) (Or.inl ⟨by rfl, ?_⟩) (by assumption) ?_
  · intro wq hS
    go_simp
  try simp only [Act.put, List.setIfInBounds_toArray, List.set_cons_zero, List.set_cons_succ]
  refine takeD 1 4 (.pointer (some ⟨lp, 0, none⟩)) (by exact rfl) rfl (by kernel_rfl) (by kernel_rfl) (by kernel_rfl) (fun _ _ _ h => h) (Or.inl ⟨by rfl, ?_⟩) (by assumption) ?_
  · intro wq hS
    go_simp
  try simp only [Act.put, List.setIfInBounds_toArray, List.set_cons_zero, List.set_cons_succ]
  refine takeD 2 5 (.pointer (some ⟨lp, 4, none⟩)) (by exact rfl) rfl (by kernel_rfl) (by kernel_rfl) (by kernel_rfl) (fun _ _ _ h => h) (Or.inl ⟨by rfl, ?_⟩) (by assumption) ?_
  · intro wq hS
    go_simp
  try simp only [Act.put, List.setIfInBounds_toArray, List.set_cons_zero, List.set_cons_succ]
  refine takeD 3 6 (.int .i64 (g.next : Int)) (by exact rfl) rfl (by kernel_rfl) (by kernel_rfl) (by kernel_rfl) (fun _ _ _ h => h) (Or.inl ⟨by rfl, ?_⟩) (by assumption) ?_
  · intro wq hS
    have c := hS.cell 4 (v := .int .i64 (g.next : Int)) rfl
    go_simp
  try simp only [Act.put, List.setIfInBounds_toArray, List.set_cons_zero, List.set_cons_succ]
  refine takeD 4 7 (.pointer (some ⟨lp, 0, none⟩)) (by exact rfl) rfl (by kernel_rfl) (by kernel_rfl) (by kernel_rfl) (fun _ _ _ h => h) (Or.inl ⟨by rfl, ?_⟩) (by assumption) ?_
  · intro wq hS
    go_simp
  try simp only [Act.put, List.setIfInBounds_toArray, List.set_cons_zero, List.set_cons_succ]
  refine wpAnyH_ready (rs := [5]) (by kernel_rfl) (by simp) ?_
  refine AllReadyH.cons (by exact rfl) (fun K hK => ?_) AllReadyH.nil
  go_simp
  refine Calls.mono (HF.out _ hHeld) ?_
  rintro e w1 ⟨rfl, rfl⟩
  go_wp2_with fail
  refine hK.out _ _ hHeld (fun hHeld2 => ?_)
  clear hK K
  try simp only [Act.put, List.setIfInBounds_toArray, List.set_cons_zero, List.set_cons_succ]
  refine takeD 6 9 (.bool em) (by exact rfl) rfl (by kernel_rfl) (by kernel_rfl) (by kernel_rfl) (fun _ _ _ h => h) (Or.inl ⟨by rfl, ?_⟩) (by assumption) ?_
  · intro wq hS
    have e := HEQ.out
    go_simp
  try simp only [Act.put, List.setIfInBounds_toArray, List.set_cons_zero, List.set_cons_succ]
  refine takeD 7 2 (.bool em) (by exact rfl) rfl (by kernel_rfl) (by kernel_rfl) (by kernel_rfl) (fun _ _ _ h => h) (Or.inl ⟨by rfl, ?_⟩) (by assumption) ?_
  · intro wq hS
    go_simp
  try simp only [Act.put, List.setIfInBounds_toArray, List.set_cons_zero, List.set_cons_succ]
  refine wpAnyH_done (by kernel_rfl) ?_ _
  refine NoPanic.normal ?_
  clear hHeld hHeld2
  go_wp2_with fail
  go_ret
  exact ⟨rfl, HB0.out⟩
end Go.Proofs.YtkmdegmpffgplaaGreatDoor
