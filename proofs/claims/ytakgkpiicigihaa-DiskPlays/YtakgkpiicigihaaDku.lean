/- disk XX: the disk's files as plain lists; awake. -/
import Derived.Test.YtakgkpiicigihaaDkt
namespace Go.Proofs.Ytakgkpiicigihaa
open Go.RowKit Go.Maps Go.Sort Go.Shelf pk
set_option linter.unusedVariables false

abbrev FS := List (List UInt8 × List (List Nat) × Nat)
def totA : FS → Nat
  | [] => 0
  | t :: fs => t.2.1.length + totA fs
theorem tot_ab (es : List Ent) : tot es = totA (ab es) := by
  induction es with
  | nil => rfl
  | cons e es ih => show e.ss.length + tot es = e.ss.length + totA (ab es); rw [ih]
theorem find_ab' (es : List Ent) (l : List UInt8) : (ab es).find? (fun t => t.1 == l) = (fd es l).map fun e => (e.nm, e.ss, e.sy) := by
  unfold ab fd
  rw [List.find?_map]
  rfl
def fitA (room : Nat) (fs : FS) (l : List UInt8) (k : Nat) : Bool := !((fs.find? (fun t => t.1 == l)).isNone && decide (fs.length = 64)) && decide (k ≤ room - totA fs)
theorem fit_ab (x : DK) (l : List UInt8) (k : Nat) : fit x l k = fitA x.room (ab x.es) l k := by
  unfold fit fitA
  rw [find_ab', tot_ab]
  congr 2
  · congr 1
    · cases fd x.es l <;> rfl
    · simp [ab]
theorem fd_ab {es : List Ent} {l n : List UInt8} {ss : List (List Nat)} {sy : Nat} (h : (ab es).find? (fun t => t.1 == l) = some (n, ss, sy)) : ∃ f, fd es l = some f ∧ f.ss = ss ∧ f.sy = sy ∧ f.nm = n := by
  rw [find_ab'] at h
  obtain ⟨f, h1, h2⟩ := Option.map_eq_some_iff.1 h
  cases h2
  exact ⟨f, h1, rfl, rfl, rfl⟩
theorem names_ab (es : List Ent) : es.map (·.nm) = (ab es).map (·.1) := by simp [ab]
/-- a row of bytes that is known whole -/
theorem own_blk {w : World} {g n B : Nat} {bs : List Nat} (h : w.heap[g]? = some (.cells (cl bs).toArray 5 (0, 0))) (hn : bs.length = n) (hb : By bs) (hm : n ≤ 140737488355328) (hB : B ≤ g) : OwnB w B (.slice (some ⟨g, 0, none⟩) n n) bs := by
  subst hn
  exact ⟨hb, by rw [cl_len]; omega, Or.inr ⟨g, bs.length, _, rfl, hB, h, Nat.le_refl _, by unfold maxLen; omega, by simp [cl], by rw [Nat.mul_one, ← cl_len bs]; exact List.take_length⟩⟩
theorem by_zeros (n : Nat) : By (List.replicate n 0) := fun x hx => by rw [List.eq_of_mem_replicate hx]; omega
theorem made_by (n : Nat) : madeCells (Value.int .u8 0).cells (n * 1) = (cl (List.replicate n 0)).toArray := by
  show (Array.range (n * 1)).map _ = _
  refine Array.ext_getElem? fun i => ?_
  by_cases h : i < n
  · simp [cl, h, Nat.mod_one, Value.cells]
  · simp [cl, h]
theorem mk_by (n : Nat) (hn : n ≤ 1000000) (w : World) : (Instr.makeSlice 31 (.int .i64 (n : Int)) (.int .i64 (n : Int))).run Try.prog w = .ok (.slice (some ⟨w.heap.size, 0, none⟩) n n) (w.alloc (.cells (cl (List.replicate n 0)).toArray 5)) := by
  obtain ⟨i0, hi, hz0, hz1, hz2⟩ := info8_parts
  have h := run_make (P := Try.prog) w 31 5 i0 _ Try.underlying31 hi hz0 .i64 .i64 n n (by omega) (by omega) (by rw [hz2]; omega) (by omega)
  rw [hz1] at h
  simp only [Int.toNat_natCast] at h
  rw [made_by] at h
  exact h
theorem own_mk (n : Nat) (hn : n ≤ 1000000) (w : World) : OwnB (w.alloc (.cells (cl (List.replicate n 0)).toArray 5)) w.heap.size (.slice (some ⟨w.heap.size, 0, none⟩) n n) (List.replicate n 0) :=
  own_blk (Go.heap_alloc_new w _) (by simp) (by_zeros n) (by omega) (Nat.le_refl _)
/-- a row of truth values that is known whole -/
theorem bl_blk {w : World} {g : Nat} {ks : List Bool} (h : VA w g (ks.map Value.bool) 4) (hm : ks.length ≤ 140737488355328) : Bl w (.slice (some ⟨g, 0, none⟩) ks.length ks.length) ks ∧ Safe w (.slice (some ⟨g, 0, none⟩) ks.length ks.length) := by
  refine ⟨⟨some ⟨g, 0, none⟩, ks.length, rfl, Nat.le_refl _, by omega, fun _ => ⟨g, 0, rfl, fun i hi => ?_⟩⟩, fun b off n c e => ?_⟩
  · rw [Nat.zero_add]
    exact h.cell i (by simp [hi])
  · cases e
    exact ⟨_, _, _, h.blk, by unfold Dt; decide⟩
theorem one_perm {ns : List (List UInt8)} {l : List UInt8} (h : ns.Perm [l]) : ns = [l] := List.perm_singleton.1 h
theorem awake_sum : (stl [false, true, true] [[97]] [([97], parts (List.replicate 33 0) ++ parts [7], 0)]).1 = [([97], [[], [0], [7]], 3)] := by decide
theorem awake_parts : parts (List.replicate 33 0) = [List.replicate 32 0, [0]] := by decide
set_option maxRecDepth 100000 in
set_option maxHeartbeats 4000000 in
theorem awake_ok (w : World) : Calls Try.prog 9 #[] w fun e w' => e = .returned (.bool true) ∧ Below w.heap.size w w' := by
  have h33 : ∀ w : World, (Instr.makeSlice 31 (.int .i64 33) (.int .i64 33)).run Try.prog w = .ok (.slice (some ⟨w.heap.size, 0, none⟩) 33 33) (w.alloc (.cells (cl (List.replicate 33 0)).toArray 5)) := fun w => mk_by 33 (by omega) w
  have h96 : ∀ w : World, (Instr.makeSlice 31 (.int .i64 96) (.int .i64 96)).run Try.prog w = .ok (.slice (some ⟨w.heap.size, 0, none⟩) 96 96) (w.alloc (.cells (cl (List.replicate 96 0)).toArray 5)) := fun w => mk_by 96 (by omega) w
  generalize h33c : (cl (List.replicate 33 0)).toArray = c33 at h33
  generalize h96c : (cl (List.replicate 96 0)).toArray = c96 at h96
  have H33 := (show Hid _ from h33c)
  have H96 := (show Hid _ from h96c)
  clear h33c h96c
  go_enter Try.func9, Try.ntmps9
  go_wp2_with fail
  refine (new_ok 4 w (by omega) (by omega)).mono ?_
  rintro e w1 ⟨p, m, rfl, hD1, b1⟩
  have HD1 := (show Hid _ from hD1)
  have HB1 := (show Hid _ from b1)
  clear hD1 b1
  unfold ptr
  go_wp2_with fail
  have O1 := own_mk 33 (by omega) w1
  rw [H33.out] at O1
  have b2 := (Below.refl w1.heap.size w1).alloc (Nat.le_refl _) (.cells c33 5)
  have HB2 := (show Hid _ from HB1.out.trans (b2.mono HB1.out.size))
  refine (append_ok _ w.heap.size p m _ (HD1.out.step b2) ⟨#[97]⟩ (by decide) (by decide) _ (List.replicate 33 0) O1.bs O1.safe (by simp) (by decide) rfl (by decide) (by decide)).mono ?_
  rintro e w3 ⟨he, ⟨es3, hab3, hD3⟩, hk3, hb3⟩
  obtain rfl : e = .returned (.int .i64 0) := he
  have HA3 : Hid (ab es3 = [([97], parts (List.replicate 33 0), 0)]) := hab3
  have HD3 : Hid (Dsk w3 w.heap.size p m ⟨4, 1, 0, true, .nilFunc, es3⟩) := hD3
  have HB3 := (show Hid _ from HB2.out.trans hb3)
  clear hab3 hD3 hk3 hb3 O1 b2
  go_wp2_with fail
  have O4 := own_mk 96 (by omega) w3
  rw [H96.out] at O4
  have b4 := (Below.refl w3.heap.size w3).alloc (Nat.le_refl _) (.cells c96 5)
  refine (append_full _ w.heap.size p m _ (HD3.out.step b4) ⟨#[98]⟩ (by decide) (by decide) _ (List.replicate 96 0) O4.bs (by simp) (by rw [fit_ab]; show fitA 4 (ab es3) _ _ = false; rw [HA3.out]; decide)).mono ?_
  rintro e w5 ⟨rfl, b5⟩
  have HD5 := (show Hid _ from (HD3.out.step b4).step b5)
  have HB5 := (show Hid _ from (HB3.out.trans (b4.mono HB3.out.size)).trans (b5.mono (Nat.le_trans HB3.out.size b4.size)))
  clear b4 b5 O4
  go_wp2_with fail
  refine (arm_ok _ w.heap.size p m _ HD5.out 1 (by decide) rfl).mono ?_
  rintro e w6 ⟨rfl, hD6, hk6, hb6⟩
  have HD6 : Hid (Dsk w6 w.heap.size p m ⟨4, 1, 1, true, .nilFunc, es3⟩) := hD6
  have HB6 := (show Hid _ from HB5.out.trans hb6)
  clear hD6 hk6 hb6
  go_wp2_with fail
  have O7 : OwnB (w6.alloc (.cells #[.int .u8 7] 5)) w6.heap.size (.slice (some ⟨w6.heap.size, 0, none⟩) 1 1) [7] := own_blk (bs := [7]) (Go.heap_alloc_new w6 _) rfl (By.one (by omega)) (by omega) (Nat.le_refl _)
  have b7 := (Below.refl w6.heap.size w6).alloc (Nat.le_refl _) (.cells #[.int .u8 7] 5)
  refine (append_ok _ w.heap.size p m _ (HD6.out.step b7) ⟨#[97]⟩ (by decide) (by decide) _ [7] O7.bs O7.safe (by simp) (by rw [fit_ab]; show fitA 4 (ab es3) _ _ = true; rw [HA3.out]; decide) rfl (by show (1 : Nat) ≤ _; omega) (by show (1 : Nat) ≤ _; omega)).mono ?_
  rintro e w8 ⟨he, ⟨es8, hab8, hD8⟩, hk8, hb8⟩
  obtain rfl : e = .returned (.int .i64 18) := he
  have HA8 : Hid (ab es8 = [([97], parts (List.replicate 33 0) ++ parts [7], 0)]) := by
    have h1 : ab es8 = apd (ab es3) [97] (parts [7]) := hab8
    rw [HA3.out] at h1
    exact h1
  have HD8 : Hid (Dsk w8 w.heap.size p m ⟨4, 2, 0, false, .nilFunc, es8⟩) := hD8
  have HB8 := (show Hid _ from (HB6.out.trans (b7.mono HB6.out.size)).trans hb8)
  clear hab8 hD8 hk8 hb8 O7 b7
  go_wp2_with (first | (go_at_call 26; refine (on_ok _ w.heap.size p m _ HD8.out).mono ?_; rintro e w9 ⟨rfl, rfl⟩) | (go_at_call 25; refine (ops_ok _ w.heap.size p m _ HD8.out).mono ?_; rintro e w9 ⟨rfl, rfl⟩))
  have VB : VA (w9.alloc (.cells #[.bool false, .bool true, .bool true] 4)) w9.heap.size ([false, true, true].map Value.bool) 4 := va_new w9 _ _
  have bl := bl_blk VB (by decide)
  have b10 := (Below.refl w9.heap.size w9).alloc (Nat.le_refl _) (.cells #[.bool false, .bool true, .bool true] 4)
  refine (restart_ok _ w.heap.size p m _ (HD8.out.step b10) false _ [false, true, true] bl.1 (by decide) bl.2 rfl rfl).mono ?_
  rintro e w11 ⟨rfl, ⟨ns, hpm, hsr, es11, hab11, hD11⟩, hk11, hb11⟩
  have hns : ns = [[97]] := one_perm (by
    have h1 : ns.Perm (es8.map (·.nm)) := hpm
    rw [names_ab, HA8.out] at h1
    exact h1)
  subst hns
  have HA11 : ab es11 = [([97], [[], [0], [7]], 3)] := by
    have h1 : ab es11 = (stl [false, true, true] [[97]] (ab es8)).1 := hab11
    rw [HA8.out, awake_sum] at h1
    exact h1
  obtain ⟨f, hf1, hf2, hf3, _⟩ := fd_ab (es := es11) (l := [97]) (by rw [HA11]; rfl)
  have HD11 : Hid (Dsk w11 w.heap.size p m ⟨4, 2, 0, true, .nilFunc, es11⟩) := hD11
  have HB11 := (show Hid _ from (HB8.out.trans (b10.mono HB8.out.size)).trans hb11)
  have HF1 := (show Hid _ from hf1)
  have HF2 := (show Hid _ from hf2)
  clear VB bl b10 hpm hsr hab11 hD11 hk11 hb11 HA11 hf1 hf2 hf3
  go_wp2_with fail
  refine (read_ok _ w.heap.size p m _ HD11.out ⟨#[97]⟩ (by decide) (by decide) f HF1.out rfl).mono ?_
  rintro e w12 ⟨⟨u, rfl, ho⟩, b12⟩
  rw [HF2.out] at ho
  obtain ⟨_, a, c, hu, h1, h2, h3, h4⟩ := ho.bs
  have hl : (flat [[], [0], [7]]).length = 96 := by decide
  rw [hl] at hu h1
  subst hu
  obtain ⟨b, off, rfl, _, hx⟩ := h4 (by decide)
  have h64 := hx 64 (by decide)
  rw [show bt (flat [[], [0], [7]]) 64 = 7 by decide] at h64
  have HB12 := (show Hid _ from HB11.out.trans (b12.mono HB11.out.size))
  clear hx h4 ho b12
  go_wp2_with fail
  go_ret
  exact ⟨rfl, HB12.out⟩
end Go.Proofs.Ytakgkpiicigihaa
