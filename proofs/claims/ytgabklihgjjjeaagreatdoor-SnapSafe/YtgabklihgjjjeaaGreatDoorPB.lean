/- parts IX: snap's payload of whole sectors. -/
import Derived.Test.YtgabklihgjjjeaaGreatDoorPcg
import Derived.Shelf.Lay
import Derived.Ground.NamesProg
import Derived.Shelf.LaysM
import Derived.Shelf.Strconv.Itoa4
import Derived.Shelf.Strings.Repeat
import Derived.Lib.AppendIntMem
import Derived.Lib.SmallJoins
import Derived.Shelf.Small.Wraps
import Derived.Test.YtgabklihgjjjeaaGreatDoorDlh
namespace Go.Proofs.YtgabklihgjjjeaaGreatDoor
open Go.RowKit Go.Shelf pk
set_option linter.unusedVariables false
set_option linter.unusedSimpArgs false

theorem own_form {w : World} {B : Nat} {v : Value} {cs : List Nat} (h : OwnB w B v cs) (h0 : 0 < cs.length) : ∃ b k, v = .slice (some ⟨b, 0, none⟩) cs.length k ∧ cs.length ≤ k ∧ k ≤ 9223372036854775807 := by
  obtain ⟨hl, h2⟩ := h.own
  rcases h2 with ⟨rfl, h1⟩ | ⟨g, cap, cur, rfl, hb, hg, hcap, hcm, hcs, htk⟩
  · omega
  · exact ⟨g, cap, rfl, hcap, by unfold maxLen at hcm; omega⟩
set_option maxRecDepth 100000 in
theorem eq_c4 (c : Nat) (w : World) : (Op.equalIn 10000 83 (.agg #[.int .u8 ((c : Int) / 16777216), .int .u8 ((c : Int) / 65536 % 256), .int .u8 ((c : Int) / 256 % 256), .int .u8 ((c : Int) % 256)]) (.agg #[.int .u8 ((c : Int) / 16777216), .int .u8 ((c : Int) / 65536 % 256), .int .u8 ((c : Int) / 256 % 256), .int .u8 ((c : Int) % 256)])).run Tryz.prog w = .ok true w := by
  obtain ⟨i0, hi, _⟩ := info8_parts
  rw [show (10000 : Nat) = 9999 + 1 from rfl, run_equalIn_array (P := Tryz.prog) w 9999 _ _ Tryz.underlying83 hi]
  have hc : Tryz.prog.cellsOf 5 = 1 := by kernel_rfl
  rw [hc]
  simp [Op.eqItems, List.range, List.range.loop, go_sem]
set_option maxRecDepth 100000 in
set_option maxHeartbeats 1000000 in
theorem payload_ok (v : Value) (p : List Nat) (w : World) (hby : By p) (h : Bs w v (secS p)) (h0 : 0 < p.length) (hl : p.length ≤ 400000) :
    Calls Tryz.prog 23 #[v] w fun e w' => (∃ u, e = .returned (.tuple #[u, .bool true]) ∧ Bs w' u p ∧ Safe w' u) ∧ Below w.heap.size w w' := by
  have HP : Hid (Bs w v (secS p)) := h
  obtain ⟨sa, l0, k0, rfl⟩ : ∃ sa l2 k2, v = .slice sa l2 k2 := by obtain ⟨_, a, c, e, _⟩ := h; exact ⟨_, _, _, e⟩
  obtain ⟨L, hL⟩ : ∃ L, L = p.length := ⟨_, rfl⟩
  have HL : Hid (L = p.length) := hL
  have HBY : Hid (By p) := hby
  obtain ⟨c, hc⟩ : ∃ c, c = crc p := ⟨_, rfl⟩
  have HC : Hid (crc p = c) := hc.symm
  have HLT : Hid (c < 4294967296) := (show c < 4294967296 by rw [hc]; exact crc_lt p hby)
  rw [← hL] at h0 hl
  clear hL hby h hc
  go_enter Tryz.func23, Tryz.ntmps23
  go_wp2_with fail
  refine (join_ok _ 178 (by omega) _ _ _ (bodyS p) (bodyS_by HBY.out) (by rw [bodyS_len]; omega) (by rw [bodyS_len, ← HL.out]; omega) HP.out).mono ?_
  rintro e w1 ⟨⟨u, rfl, o1⟩, b1⟩
  have HB1 := (show Hid _ from b1)
  have HBS1 : Hid (Bs w1 u (bodyS p)) := o1.bs
  obtain ⟨b, n, k, rfl, hn, hk1, hk2⟩ : ∃ b n k, u = .slice (some ⟨b, 0, none⟩) n k ∧ n = L + 4 ∧ n ≤ k ∧ k ≤ 9223372036854775807 := by
    obtain ⟨b, k, e, q1, q2⟩ := own_form o1 (by rw [bodyS_len]; omega)
    rw [bodyS_len, ← HL.out] at e q1
    exact ⟨b, _, k, e, rfl, q1, q2⟩
  subst hn
  have HSF : Hid (Safe w1 (.slice (some ⟨b, 0, none⟩) L L)) := fun b' off' n' c' e => by cases e; exact o1.safe b 0 _ _ rfl
  clear o1 b1
  go_wp2_with fail
  have HBT : Hid (Bs w1 (.slice (some ⟨b, L, none⟩) 4 (k - L)) (crc4 c)) := by
    have h := bs_sub HBS1.out L 4 (by rw [bodyS_len, ← HL.out]; omega)
    rw [show ((bodyS p).drop L).take 4 = crc4 c by unfold bodyS; rw [HC.out, HL.out, List.drop_left]; rfl, Nat.zero_add] at h
    exact h
  have HBP : Hid (Bs w1 (.slice (some ⟨b, 0, none⟩) L L) p) := by
    have h := bs_sub HBS1.out 0 L (by rw [bodyS_len, ← HL.out]; omega)
    rw [show ((bodyS p).drop 0).take L = p by unfold bodyS; rw [HL.out, List.drop_zero, List.take_left]] at h
    obtain ⟨hby, a, c', e, h1, h2, h3, h4⟩ := h
    cases e
    exact ⟨hby, _, p.length, rfl, Nat.le_refl _, by omega, fun e => (by cases e), h4⟩
  have HB2 : Hid (Below w.heap.size w (w1.alloc (.cells #[.int .u8 0, .int .u8 0, .int .u8 0, .int .u8 0] 83)).drew) := (HB1.out.alloc HB1.out.size _).drew
  have b12 : Below w1.heap.size w1 (w1.alloc (.cells #[.int .u8 0, .int .u8 0, .int .u8 0, .int .u8 0] 83)).drew := ((Below.refl _ _).alloc (Nat.le_refl _) _).drew
  have V2 : VA (w1.alloc (.cells #[.int .u8 0, .int .u8 0, .int .u8 0, .int .u8 0] 83)).drew w1.heap.size [.int .u8 0, .int .u8 0, .int .u8 0, .int .u8 0] 83 := VA.drew (va_new w1 _ _)
  have HBT2 := HBT.out.step b12
  have HNX : Hid (∀ w3, Upd w1.heap.size (w1.alloc (.cells #[.int .u8 0, .int .u8 0, .int .u8 0, .int .u8 0] 83)).drew w3 → Bs w3 (.slice (some ⟨b, 0, none⟩) L L) p ∧ Safe w3 (.slice (some ⟨b, 0, none⟩) L L)) := fun w3 U => ⟨HBP.out.step (U.bel b12 (Nat.le_refl _)), Safe.kee HSF.out (Kee.bel (U.bel b12 (Nat.le_refl _)))⟩
  have hq : w1.heap.size < (w1.alloc (.cells #[.int .u8 0, .int .u8 0, .int .u8 0, .int .u8 0] 83)).drew.heap.size := V2.lt
  have hqw : w.heap.size ≤ w1.heap.size := HB1.out.size
  refine wp_region_held_drew (S := fun _ => True) (by kernel_rfl) trivial (fun hHeld => ?_)
  generalize (w1.alloc (.cells #[.int .u8 0, .int .u8 0, .int .u8 0, .int .u8 0] 83)).drew = w2 at *
  generalize w1.heap.size = q at *
  clear HBT HBP b12 HBS1 HB1 HSF
  obtain ⟨w3, hcp, V3, U3⟩ := cpRunO (rT := 3) (o := 0) (dL := 4) (dC := 4) HBT2 (by exact Nat.le_refl 4) V2 (by exact Nat.le_refl 4)
  rw [show (crc4 c).length = 4 from rfl] at hcp V3
  refine takeD 0 33 (.slice (some ⟨q, 0, none⟩) 4 4) (by exact rfl) rfl (by kernel_rfl) (by kernel_rfl) (by kernel_rfl) (fun _ _ _ h => h) (Or.inl ⟨by rfl, ?_⟩) (by assumption) ?_
  · intro wq hS
    go_simp
  try simp only [Act.put, List.setIfInBounds_toArray, List.set_cons_zero, List.set_cons_succ]
  refine takeD 1 34 (.slice (some ⟨b, 0, none⟩) (L + 4) k) (by exact rfl) rfl (by kernel_rfl) (by kernel_rfl) (by kernel_rfl) (fun _ _ _ h => h) (Or.inl ⟨by rfl, ?_⟩) (by assumption) ?_
  · intro wq hS
    go_simp
  try simp only [Act.put, List.setIfInBounds_toArray, List.set_cons_zero, List.set_cons_succ]
  refine takeD 2 35 (.int .i64 (L : Int)) (by exact rfl) rfl (by kernel_rfl) (by kernel_rfl) (by kernel_rfl) (fun _ _ _ h => h) (Or.inl ⟨by rfl, ?_⟩) (by assumption) ?_
  · intro wq hS
    go_simp
  try simp only [Act.put, List.setIfInBounds_toArray, List.set_cons_zero, List.set_cons_succ]
  refine takeD 3 36 (.slice (some ⟨b, L, none⟩) 4 (k - L)) (by exact rfl) rfl (by kernel_rfl) (by kernel_rfl) (by kernel_rfl) (fun _ _ _ h => h) (Or.inl ⟨by rfl, ?_⟩) (by assumption) ?_
  · intro wq hS
    have q1 : (L : Int) ≤ (L : Int) + 4 := by omega
    have q2 : ¬ (k = L) := by omega
    go_simp
  try simp only [Act.put, List.setIfInBounds_toArray, List.set_cons_zero, List.set_cons_succ]
  refine wpAnyH_ready (rs := [4]) (by kernel_rfl) (by simp) ?_
  refine AllReadyH.cons (by exact rfl) (fun K hK => ?_) AllReadyH.nil
  go_simp
  refine hK.out _ _ trivial (fun _ => ?_)
  clear hK K
  try simp only [Act.put, List.setIfInBounds_toArray, List.set_cons_zero, List.set_cons_succ]
  refine wpAnyH_done (by kernel_rfl) ?_ _
  have HV3 : Hid (VA w3 q [.int .u8 ((c : Int) / 16777216), .int .u8 ((c : Int) / 65536 % 256), .int .u8 ((c : Int) / 256 % 256), .int .u8 ((c : Int) % 256)] 83) := by
    rw [crc4_cl c HLT.out] at V3
    exact V3
  have HB3 : Hid (Below w.heap.size w w3) := U3.bel HB2.out hqw
  have HBP3 : Hid (Bs w3 (.slice (some ⟨b, 0, none⟩) L L) p) := (HNX.out w3 U3).1
  have HSF3 : Hid (Safe w3 (.slice (some ⟨b, 0, none⟩) L L)) := (HNX.out w3 U3).2
  clear V3 HBT2 V2 hcp HNX HB2 U3
  go_wp2_with fail
  refine wp_region_held_drew (S := fun w' => VA w' q [.int .u8 ((c : Int) / 16777216), .int .u8 ((c : Int) / 65536 % 256), .int .u8 ((c : Int) / 256 % 256), .int .u8 ((c : Int) % 256)] 83 ∧ Bs w' (.slice (some ⟨b, 0, none⟩) L L) p) (by kernel_rfl) ⟨VA.drew HV3.out, HBP3.out.step (Below.refl _ _).drew⟩ (fun hHeld => ?_)
  have HB4 : Hid (Below w.heap.size w w3.drew) := HB3.out.drew
  have HBP4 : Hid (Bs w3.drew (.slice (some ⟨b, 0, none⟩) L L) p) := HBP3.out.step (Below.refl _ _).drew
  have HSF4 : Hid (Safe w3.drew (.slice (some ⟨b, 0, none⟩) L L)) := Safe.kee HSF3.out (Kee.bel (Below.refl _ _).drew)
  have HV4 : Hid (VA w3.drew q [.int .u8 ((c : Int) / 16777216), .int .u8 ((c : Int) / 65536 % 256), .int .u8 ((c : Int) / 256 % 256), .int .u8 ((c : Int) % 256)] 83) := VA.drew HV3.out
  generalize w3.drew = w4 at *
  clear HV3 HB3 HBP3 HSF3
  refine takeD 1 39 (.slice (some ⟨b, 0, none⟩) L L) (by exact rfl) rfl (by kernel_rfl) (by kernel_rfl) (by kernel_rfl) (fun _ _ _ h => h) (Or.inl ⟨by rfl, ?_⟩) (by assumption) ?_
  · intro wq hS
    go_simp
  try simp only [Act.put, List.setIfInBounds_toArray, List.set_cons_zero, List.set_cons_succ]
  refine takeD 0 38 (.agg #[.int .u8 ((c : Int) / 16777216), .int .u8 ((c : Int) / 65536 % 256), .int .u8 ((c : Int) / 256 % 256), .int .u8 ((c : Int) % 256)]) (by exact rfl) rfl (by kernel_rfl) (by kernel_rfl) (by kernel_rfl) (fun _ _ _ h => h) (Or.inl ⟨by rfl, ?_⟩) (by assumption) ?_
  · intro wq hS
    have y0 := hS.1.cell 0 (v := .int .u8 ((c : Int) / 16777216)) rfl
    have y1 := hS.1.cell 1 (v := .int .u8 ((c : Int) / 65536 % 256)) rfl
    have y2 := hS.1.cell 2 (v := .int .u8 ((c : Int) / 256 % 256)) rfl
    have y3 := hS.1.cell 3 (v := .int .u8 ((c : Int) % 256)) rfl
    go_simp
  try simp only [Act.put, List.setIfInBounds_toArray, List.set_cons_zero, List.set_cons_succ]
  refine wpAnyH_ready (rs := [2]) (by kernel_rfl) (by simp) ?_
  refine AllReadyH.cons (by exact rfl) (fun K hK => ?_) AllReadyH.nil
  go_simp
  refine (pcrc_exp _ p _ HBP4.out c HC.out).mono ?_
  rintro e w5 ⟨rfl, b5⟩
  have HB5 : Hid (Below w.heap.size w w5) := HB4.out.trans (b5.mono HB4.out.size)
  have HBP5 : Hid (Bs w5 (.slice (some ⟨b, 0, none⟩) L L) p) := HBP4.out.step b5
  have HSF5 : Hid (Safe w5 (.slice (some ⟨b, 0, none⟩) L L)) := Safe.kee HSF4.out (Kee.bel b5)
  have HV5 : Hid (VA w5 q [.int .u8 ((c : Int) / 16777216), .int .u8 ((c : Int) / 65536 % 256), .int .u8 ((c : Int) / 256 % 256), .int .u8 ((c : Int) % 256)] 83) := HV4.out.step b5
  clear b5 HV4 HB4 HBP4
  go_wp2_with fail
  refine hK.out _ _ ⟨HV5.out, HBP5.out⟩ (fun _ => ?_)
  clear hK K
  try simp only [Act.put, List.setIfInBounds_toArray, List.set_cons_zero, List.set_cons_succ]
  refine takeD 3 41 (.bool false) (by exact rfl) rfl (by kernel_rfl) (by kernel_rfl) (by kernel_rfl) (fun _ _ _ h => h) (Or.inl ⟨by rfl, ?_⟩) (by assumption) ?_
  · intro wq hS
    have hE := eq_c4 c wq
    go_simp
  try simp only [Act.put, List.setIfInBounds_toArray, List.set_cons_zero, List.set_cons_succ]
  refine wpAnyH_done (by kernel_rfl) ?_ _
  go_wp2_with fail
  refine bodyPost_ret (v := .tuple #[.slice (some ⟨b, 0, none⟩) L L, .bool true]) (by simp [results, Tryz.results23, go_sem]) rfl ?_
  exact ⟨⟨_, rfl, HBP5.out, HSF5.out⟩, HB5.out⟩
end Go.Proofs.YtgabklihgjjjeaaGreatDoor
/- parts X: names (Name: a letter and twelve digits). -/
namespace Go.Proofs.YtgabklihgjjjeaaGreatDoor
open Go.RowKit Go.Shelf pk
set_option linter.unusedVariables false
set_option linter.unusedSimpArgs false

shelf_lay LaysM.n173 Nm 173 at Tryz as laysM173
shelf_lay Lays.n105 Nm 105 at Tryz as lays105
theorem bx105 : Builder.Extra Tryz.prog lays105_ren where
  sizeBuilder := by kernel_rfl
  liesBuilder := by kernel_rfl
  t5 := Tryz.underlying5
  a5 := Tryz.isAgg5
  z5 := Tryz.sizeOf5
  v5 := Tryz.zeroValue5
  infoByte := by kernel_rfl
  cellsByte := by kernel_rfl
  sizeByte := by kernel_rfl
  neB5 := by decide
/-- the library's table of powers of ten -/
def Pt10 (w : World) : Prop := Lib.TabIs Tryz.prog w "internal/strconv.uint64pow10" .u64 Lib.pow10Tab
theorem Pt10.on {w w' : World} (h : Pt10 w) (hb : Below w.heap.size w w') : Pt10 w' := (Lib.tabBelow_of_tabIs h) w' hb
theorem fmt_ok (v : Nat) (w : World) (h : v ≤ 999999999999) (hT : Pt10 w) :
    Calls Tryz.prog 63 #[.int .i64 (v : Int), .int .i64 10] w fun e w' => e = .returned (.string ⟨(Lib.decDigits v).toArray⟩) ∧ Below w.heap.size w w' := by
  refine (Any.strconv_FormatInt_10 laysM173 (v : Int) (by omega) (by omega) w hT).mono ?_
  rintro e w' ⟨rfl, k, os, rfl⟩
  refine ⟨?_, Lib.below_grow _ _ (Nat.le_refl _) _ _⟩
  have h0 : ¬ (v : Int) < 0 := by omega
  simp [Lib.itoa, h0]
theorem repeat_ok (c : Nat) (w : World) (hc : c ≤ 12) :
    Calls Tryz.prog 64 #[.string ⟨#[48]⟩, .int .i64 (c : Int)] w fun e w' => e = .returned (.string ⟨(List.replicate c (48 : UInt8)).toArray⟩) ∧ Below w.heap.size w w' := by
  refine (Any.strings_Repeat lays105 bx105 ⟨#[48]⟩ c w (by omega) (by show 1 * c ≤ _; omega)).mono ?_
  rintro e w' ⟨rfl, hb⟩
  refine ⟨?_, hb⟩
  have := Lib.repeatL_replicate 48 1 c
  rw [Nat.mul_one] at this
  rw [← this]
  rfl
/-- the k lowest digits of v -/
def dgL : Nat → Nat → List UInt8
  | 0, _ => []
  | k + 1, v => dgL k (v / 10) ++ [UInt8.ofNat (48 + v % 10)]
theorem dgL_len : ∀ k v, (dgL k v).length = k
  | 0, _ => rfl
  | k + 1, v => by unfold dgL; rw [List.length_append, dgL_len k]; rfl
theorem dgL_zero : ∀ k, dgL k 0 = List.replicate k 48
  | 0 => rfl
  | k + 1 => by unfold dgL; rw [show 0 / 10 = 0 from rfl, dgL_zero k]; exact (List.replicate_succ' ..).symm
theorem dgL_dec : ∀ k v, v < 10 ^ (k + 1) → (Lib.decDigits v).length ≤ k + 1 ∧ dgL (k + 1) v = List.replicate (k + 1 - (Lib.decDigits v).length) 48 ++ Lib.decDigits v
  | 0, v, h => by
    have h1 : v < 10 := by simpa using h
    rw [Lib.decDigits_one h1]
    have : v % 10 = v := by omega
    simp [dgL, this]
  | k + 1, v, h => by
    by_cases h1 : v < 10
    · rw [Lib.decDigits_one h1]
      unfold dgL
      rw [show v / 10 = 0 by omega, dgL_zero, show v % 10 = v by omega]
      exact ⟨by simp, rfl⟩
    · obtain ⟨i1, i2⟩ := dgL_dec k (v / 10) (by rw [Nat.pow_succ] at h; omega)
      rw [Lib.decDigits, dif_neg h1]
      unfold dgL
      rw [i2]
      refine ⟨by simp; omega, ?_⟩
      rw [List.append_assoc]
      congr 2
      simp
/-- the name of a snapshot -/
def nmS (n : Nat) : List UInt8 := 115 :: dgL 12 n
theorem nmS_len (n : Nat) : (nmS n).length = 13 := by unfold nmS; rw [List.length_cons, dgL_len]
theorem nmS_eq (n : Nat) (h : n ≤ 999999999999) : nmS n = [115] ++ List.replicate (12 - (Lib.decDigits n).length) 48 ++ Lib.decDigits n := by
  unfold nmS
  rw [(dgL_dec 11 n (by omega)).2]
  rfl
set_option maxRecDepth 100000 in
set_option maxHeartbeats 1000000 in
theorem pname_ok (n : Nat) (w : World) (h : n ≤ 999999999999) (hT : Pt10 w) :
    Calls Tryz.prog 39 #[.string ⟨#[115]⟩, .int .i64 12, .int .i64 (n : Int)] w fun e w' => e = .returned (.string ⟨(nmS n).toArray⟩) ∧ Below w.heap.size w w' := by
  have HT : Hid (Pt10 w) := hT
  have HN : Hid (n ≤ 999999999999) := h
  obtain ⟨l, hl⟩ : ∃ l, l = (Lib.decDigits n).length := ⟨_, rfl⟩
  have hl12 : l ≤ 12 := by rw [hl]; exact (dgL_dec 11 n (by omega)).1
  have HL : Hid (l = (Lib.decDigits n).length) := hl
  clear hl hT
  go_enter Tryz.func39, Tryz.ntmps39
  go_wp2_with fail
  refine (fmt_ok n _ HN.out HT.out).mono ?_
  rintro e w1 ⟨rfl, b1⟩
  go_wp2_with fail
  rw [show max 0 (wrap64 (12 - ((Lib.decDigits n).length : Int))) = ((12 - l : Nat) : Int) by
    rw [← HL.out]
    unfold wrap64
    omega]
  refine (repeat_ok (12 - l) _ (by omega)).mono ?_
  rintro e w2 ⟨rfl, b2⟩
  have HE : Hid (nmS n = [115] ++ List.replicate (12 - l) 48 ++ Lib.decDigits n) := by rw [HL.out]; exact nmS_eq n HN.out
  have hdl : (Lib.decDigits n).length ≤ 12 := by rw [← HL.out]; exact hl12
  go_wp2_with fail
  go_ret
  refine ⟨?_, b1.trans (b2.mono b1.size)⟩
  rw [HE.out]
  have ej : ∀ a b c : Array UInt8, (⟨a⟩ ++ ⟨b⟩ ++ ⟨c⟩ : ByteArray) = ⟨a ++ b ++ c⟩ := fun a b c => by apply ByteArray.ext; rw [ByteArray.data_append, ByteArray.data_append]
  show Ending.returned (.string (_ ++ _ ++ _)) = _
  rw [ej]
  simp
set_option maxRecDepth 100000 in
theorem sname_ok (n : Nat) (w : World) (h : n ≤ 999999999999) (hT : Pt10 w) :
    Calls Tryz.prog 22 #[.int .i64 (n : Int)] w fun e w' => e = .returned (.string ⟨(nmS n).toArray⟩) ∧ Below w.heap.size w w' := by
  go_enter Tryz.func22, Tryz.ntmps22
  go_wp2_with fail
  refine (pname_ok n _ h hT).mono ?_
  rintro e w1 ⟨rfl, b1⟩
  go_wp2_with fail
  go_ret
  exact ⟨rfl, b1⟩
end Go.Proofs.YtgabklihgjjjeaaGreatDoor
/- parts XI: number. -/
namespace Go.Proofs.YtgabklihgjjjeaaGreatDoor
open Go.RowKit Go.Shelf pk
set_option linter.unusedVariables false
set_option linter.unusedSimpArgs false

shelf_lay Lays.n103 Nm 103 at Tryz as lays103
theorem cutp_yes (c : UInt8) (T : ByteArray) (w : World) : Calls Tryz.prog 77 #[.string ⟨(c :: T.data.toList).toArray⟩, .string ⟨#[c]⟩] w fun e w' => e = .returned (.tuple #[.string T, .bool true]) ∧ w' = w := by
  refine (Any.strings_CutPrefix lays103 _ _ w).mono ?_
  rintro e w' ⟨rfl, rfl⟩
  refine ⟨?_, rfl⟩
  have h1 : Lib.hasPrefix (c :: T.data.toList) [c] = true := by simp [Lib.hasPrefix]
  simp [Lib.trimPrefix, h1]
theorem cutp_no (c d : UInt8) (w : World) (h : c ≠ d) : Calls Tryz.prog 77 #[.string ⟨#[d]⟩, .string ⟨#[c]⟩] w fun e w' => (∃ t, e = .returned (.tuple #[.string t, .bool false])) ∧ w' = w := by
  refine (Any.strings_CutPrefix lays103 _ _ w).mono ?_
  rintro e w' ⟨rfl, rfl⟩
  have h1 : Lib.hasPrefix [d] [c] = false := by show ((c == d) && _) = false; simp [h]
  exact ⟨⟨⟨(Lib.trimPrefix [d] [c]).toArray⟩, by rw [← h1]⟩, rfl⟩
set_option maxRecDepth 100000 in
set_option maxHeartbeats 1000000 in
theorem number_go (T : ByteArray) (w : World) (hT : T.size = 12) (hd : ∀ i (h : i < T.size), 48 ≤ (T[i]).toNat ∧ (T[i]).toNat ≤ 57)
    (G : Nat → Nat) (h0 : G 0 = 0) (hs : ∀ i (h : i < T.size), G (i + 1) = 10 * G i + ((T[i]).toNat - 48)) (hb : ∀ i, i ≤ 12 → G i ≤ 999999999999) :
    Calls Tryz.prog 60 #[.string ⟨#[115]⟩, .int .i64 12, .string ⟨(115 :: T.data.toList).toArray⟩] w fun e w' => e = .returned (.tuple #[.int .i64 (G 12 : Int), .bool true]) ∧ w' = w := by
  have HD := (show Hid _ from hd)
  have HS := (show Hid _ from hs)
  have HBD := (show Hid _ from hb)
  have H0 : Hid (G 0 = 0) := h0
  clear hd hs hb h0
  go_enter Tryz.func60, Tryz.ntmps60
  go_wp2_with fail
  refine (cutp_yes 115 T _).mono ?_
  rintro e w1 ⟨rfl, rfl⟩
  go_wp2_with fail
  go_loop [10, 28] (fun n i => ∃ k : Nat, k ≤ 12 ∧ i = .int .i64 (k : Int) ∧ n = .int .i64 (G k : Int)) (fun _ i => 12 - (intOf i).toNat)
  case atStart => exact ⟨0, by omega, rfl, by rw [H0.out]; rfl⟩
  case round =>
    obtain ⟨k, hk, rfl, rfl⟩ := hrel
    rcases Nat.lt_or_ge k 12 with hlt | hge
    · have hkT : k < T.size := by omega
      obtain ⟨q1, q2⟩ := HD.out k hkT
      have HG := (show Hid _ from HS.out k hkT)
      have g1 := HBD.out k hk
      have g2 := HBD.out (k + 1) (by omega)
      obtain ⟨t, ht⟩ : ∃ t, (T[k]).toNat = t := ⟨_, rfl⟩
      go_wp2_with fail
      refine ⟨⟨k + 1, by omega, by simp, ?_⟩, by simp [intOf]; omega⟩
      rw [HG.out]
      congr 1
      omega
    · obtain rfl : k = 12 := by omega
      go_wp2_with fail
      refine bodyPost_ret (v := .tuple #[.int .i64 (G 12 : Int), .bool true]) (by simp [results, Tryz.results60, go_sem]) rfl ?_
      exact ⟨rfl, rfl⟩
set_option maxRecDepth 100000 in
theorem number_no (w : World) : Calls Tryz.prog 60 #[.string ⟨#[115]⟩, .int .i64 12, .string ⟨#[116]⟩] w fun e w' => e = .returned (.tuple #[.int .i64 0, .bool false]) ∧ w' = w := by
  go_enter Tryz.func60, Tryz.ntmps60
  go_wp2_with fail
  refine (cutp_no 115 116 _ (by decide)).mono ?_
  rintro e w1 ⟨⟨t, rfl⟩, rfl⟩
  go_wp2_with fail
  refine bodyPost_ret (v := .tuple #[.int .i64 0, .bool false]) (by simp [results, Tryz.results60, go_sem]) rfl ?_
  exact ⟨rfl, rfl⟩
theorem dgL_get : ∀ k v i, i < k → (dgL k v)[i]? = some (UInt8.ofNat (48 + v / 10 ^ (k - 1 - i) % 10))
  | 0, _, i, h => by omega
  | k + 1, v, i, h => by
    unfold dgL
    rcases Nat.lt_or_ge i k with h1 | h1
    · rw [List.getElem?_append_left (by rw [dgL_len]; exact h1), dgL_get k (v / 10) i h1, Nat.div_div_eq_div_mul, ← Nat.pow_succ']
      rw [show (k - 1 - i).succ = k + 1 - 1 - i by omega]
    · obtain rfl : i = k := by omega
      rw [List.getElem?_append_right (by rw [dgL_len]; exact Nat.le_refl _), dgL_len]
      simp
theorem number_yes (n : Nat) (h : n ≤ 999999999999) (w : World) : Calls Tryz.prog 60 #[.string ⟨#[115]⟩, .int .i64 12, .string ⟨(nmS n).toArray⟩] w fun e w' => e = .returned (.tuple #[.int .i64 (n : Int), .bool true]) ∧ w' = w := by
  have hsz : (⟨(dgL 12 n).toArray⟩ : ByteArray).size = 12 := by show (dgL 12 n).toArray.size = 12; simp [dgL_len]
  have hg : ∀ i (hi : i < (⟨(dgL 12 n).toArray⟩ : ByteArray).size), ((⟨(dgL 12 n).toArray⟩ : ByteArray)[i]).toNat = 48 + n / 10 ^ (11 - i) % 10 := fun i hi => by
    have e := dgL_get 12 n i (by omega)
    have e2 : (⟨(dgL 12 n).toArray⟩ : ByteArray)[i] = (dgL 12 n)[i]'(by rw [dgL_len]; omega) := rfl
    rw [e2, (List.getElem_eq_iff _).2 e]
    show (48 + n / 10 ^ (12 - 1 - i) % 10) % 256 = _
    rw [show 12 - 1 - i = 11 - i by omega]
    have : n / 10 ^ (11 - i) % 10 < 10 := Nat.mod_lt _ (by omega)
    omega
  have hh := number_go ⟨(dgL 12 n).toArray⟩ w hsz (fun i hi => by rw [hg i hi]; have : n / 10 ^ (11 - i) % 10 < 10 := Nat.mod_lt _ (by omega); omega) (fun i => n / 10 ^ (12 - i)) (by simp; omega) (fun i hi => by
    rw [hg i hi]
    have e1 : 12 - i = 11 - i + 1 := by omega
    have e2 : 12 - (i + 1) = 11 - i := by omega
    simp only [e1, e2]
    rw [Nat.pow_succ, ← Nat.div_div_eq_div_mul]
    omega) (fun i hi => Nat.le_trans (Nat.div_le_self _ _) h)
  simpa [nmS] using hh
end Go.Proofs.YtgabklihgjjjeaaGreatDoor
/- parts XII: Numbers. -/
namespace Go.Proofs.YtgabklihgjjjeaaGreatDoor
open Go.RowKit Go.Maps Go.Sort Go.Shelf pk
set_option linter.unusedVariables false
set_option linter.unusedSimpArgs false

theorem infoI6 : (Tryz.prog.info? 2).map (fun i => (i.zero.map (fun z => z.cells.size), i.size, i.bytes)) = some (some 1, 1, 8) := by kernel_rfl
def KI : Kd Nat where
  T := 2
  S := 31
  k := 1
  bt := 8
  enc := fun b => [.int .i64 (b : Int)]
  info := by
    obtain ⟨i, hi, hz⟩ := Option.map_eq_some_iff.1 infoI6
    simp only [Prod.mk.injEq] at hz
    obtain ⟨z, hz0, hz1⟩ := Option.map_eq_some_iff.1 hz.1
    exact ⟨i, z, hi, hz0, hz.2.1, hz.2.2, hz1⟩
  und := Tryz.underlying31
  pos := by decide
  len := fun _ => rfl
  one := fun x v h => by simp at h; rw [h]; rfl
/-- a slice of texts -/
def Sn (w : World) (v : Value) (ns : List (List UInt8)) : Prop := ∃ a c, v = .slice a ns.length c ∧ ns.length ≤ c ∧ c ≤ 9223372036854775807 ∧ ∀ i l, ns[i]? = some l → ∃ b off, a = some ⟨b, off, none⟩ ∧ w.cell? ⟨b, off + i, none⟩ = some (.string ⟨l.toArray⟩) ∧ b < w.heap.size
theorem Sn.step {w w' : World} {v : Value} {ns : List (List UInt8)} (h : Sn w v ns) (k : Below w.heap.size w w') : Sn w' v ns := by
  obtain ⟨a, c, h1, h2, h3, h4⟩ := h
  refine ⟨a, c, h1, h2, h3, fun i l hl => ?_⟩
  obtain ⟨b, off, h5, h6, h7⟩ := h4 i l hl
  exact ⟨b, off, h5, (k.cell (p := ⟨b, off + i, none⟩) h7).trans h6, Nat.lt_of_lt_of_le h7 k.size⟩
theorem OwnN.sn {w : World} {B : Nat} {v : Value} {ns : List (List UInt8)} (h : OwnN w B v ns) : Sn w v ns := by
  obtain ⟨a, c, h1, h2, h3, h4⟩ := h.cells
  refine ⟨a, c, h1, h2, h3, fun i l hl => ?_⟩
  obtain ⟨g, h5, h6, cs, T, z, h7, _⟩ := h4 i l hl
  exact ⟨g, 0, h5, by rw [Nat.zero_add]; exact h6, hlt_of h7⟩
/-- a file's name: of a snapshot, or of the draft -/
def nmO : Option Nat → List UInt8
  | some n => nmS n
  | none => [116]
set_option maxRecDepth 100000 in
set_option maxHeartbeats 1000000 in
theorem numbers_ok (w : World) (v : Value) (xs : List (Option Nat)) (h : Sn w v (xs.map nmO)) (hx : ∀ n, some n ∈ xs → n ≤ 999999999999) (hl : xs.length ≤ 100) :
    Calls Tryz.prog 33 #[.string ⟨#[115]⟩, .int .i64 12, v] w fun e w' => (∃ u, e = .returned u ∧ Own KI w' w.heap.size u (xs.filterMap id)) ∧ Below w.heap.size w w' := by
  have HX := (show Hid _ from hx)
  have HS : Hid (Sn w v (xs.map nmO)) := h
  obtain ⟨a, c, e, h1, h2, h3⟩ := h
  rw [List.length_map] at e h1
  obtain ⟨L, hL⟩ : ∃ L, L = xs.length := ⟨_, rfl⟩
  rw [← hL] at e h1 hl
  have HL : Hid (L = xs.length) := hL
  have H3 := (show Hid _ from h3)
  subst e
  clear hx h3 hL
  go_enter Tryz.func33, Tryz.ntmps33
  go_wp2_with fail
  go_loopw [7, 14] (fun s i wr => ∃ k : Nat, k ≤ L ∧ i = .int .i64 (k : Int) ∧ Hid (Own KI wr w.heap.size s ((xs.take k).filterMap id)) ∧ Hid (Below w.heap.size w wr)) (fun _ i _ => L - (intOf i).toNat)
  case atStart => exact ⟨0, by omega, rfl, own_nil KI w _, Below.refl _ _⟩
  case round =>
    obtain ⟨k, hk, rfl, HO, HB⟩ := hrel
    rcases Nat.lt_or_ge k L with hlt | hge
    · obtain ⟨x, hx⟩ : ∃ x, xs[k]? = some x := ⟨_, List.getElem?_eq_getElem (by rw [← HL.out]; exact hlt)⟩
      have HXK : Hid (xs[k]? = some x) := hx
      obtain ⟨b, off, rfl, c1, c2⟩ := H3.out k (nmO x) (by rw [List.getElem?_map, hx]; rfl)
      have y1 := (HB.out.cell (p := ⟨b, off + k, none⟩) c2).trans c1
      clear hx
      cases x with
      | none =>
        change _ = some (Value.string ⟨#[116]⟩) at y1
        go_wp2_with (go_at_call 60; refine (number_no _).mono ?_; rintro e w2 ⟨rfl, rfl⟩)
        refine ⟨⟨k + 1, by omega, by simp, ?_, HB⟩, by simp [intOf]; omega⟩
        have := HO.out
        show Own _ _ _ _ _
        rw [List.take_add_one, HXK.out, List.filterMap_append]
        simpa using this
      | some n =>
        change _ = some (Value.string ⟨(nmS n).toArray⟩) at y1
        have hn : n ≤ 999999999999 := HX.out n (List.mem_of_getElem? HXK.out)
        have HLE : Hid (((xs.take k).filterMap id).length ≤ 100) := (show _ ≤ 100 from Nat.le_trans (List.length_filterMap_le _ _) (by rw [List.length_take]; omega))
        have hsz := HB.out.size
        go_wp2_with (first | (go_at_call 60; refine (number_yes n hn _).mono ?_; rintro e w2 ⟨rfl, rfl⟩) | (at_builtin; refine appOne (K := KI) rfl _ _ rfl w.heap.size ((xs.take k).filterMap id) _ n (by rfl) (by rfl) HO.out hsz (by have := HLE.out; show (((xs.take k).filterMap id).length + 1) * 8 ≤ _; omega) (by have := HLE.out; omega) _ rfl ?_; intro v3 w3 o3 b3; have HO3 := (show Hid _ from o3); have HB3 := (show Hid _ from HB.out.trans b3); clear o3 b3))
        refine ⟨⟨k + 1, by omega, by simp, ?_, HB3⟩, by simp [intOf]; omega⟩
        have := HO3.out
        show Own _ _ _ _ _
        rw [List.take_add_one, HXK.out, List.filterMap_append]
        simpa using this
    · obtain rfl : k = L := by omega
      go_wp2_with fail
      go_ret
      refine ⟨⟨_, rfl, ?_⟩, HB.out⟩
      have := HO.out
      rw [List.take_of_length_le (by rw [← HL.out]; exact Nat.le_refl _)] at this
      exact this
end Go.Proofs.YtgabklihgjjjeaaGreatDoor
