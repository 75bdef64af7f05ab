/- money: Write of every amount. -/
import Derived.Test.YteohncnjjgoemaaGreatDoorBc
import Derived.Test.YteohncnjjgoemaaGreatDoorBt
import Derived.Test.YteohncnjjgoemaaGreatDoorIa
namespace Go.Proofs.YteohncnjjgoemaaGreatDoor
open Go.RowKit
set_option linter.unusedVariables false
set_option linter.unusedSimpArgs false

/-- the currencies' names -/
def nmb (i : Nat) : ByteArray := [⟨#[69, 85, 82]⟩, ⟨#[85, 83, 68]⟩, ⟨#[74, 80, 89]⟩, ⟨#[75, 87, 68]⟩].getD i ⟨#[]⟩
structure Cm (w : World) : Prop where
  row : ∀ i, i < 4 → w.cell? ⟨0, i * 2, none⟩ = some (.string (nmb i))
theorem Cm.lt {w : World} (h : Cm w) : 0 < w.heap.size := World.block_lt_of_cell? w _ (h.row 0 (by omega))
theorem Cm.step {w w' : World} (h : Cm w) (k : Below w.heap.size w w') : Cm w' := ⟨fun i hi => (k.cell (p := ⟨0, i * 2, none⟩) h.lt).trans (h.row i hi)⟩
theorem Cm.alloc {w : World} (h : Cm w) (o : Obj) : Cm (w.alloc o) := h.step ((Below.refl _ _).alloc (Nat.le_refl _) o)
theorem Cm.drew {w : World} (h : Cm w) : Cm w.drew := h.step ((Below.refl _ _).drew)
theorem Cm.upd {w w' : World} {p : Nat} (h : Cm w) (k : Upd p w w') (hp : 0 ≠ p) : Cm w' := ⟨fun i hi => (World.cell?_of_block (w := w) (w' := w') (a := ⟨0, i * 2, none⟩) (k.block 0 hp)).trans (h.row i hi)⟩
theorem nmb_size {i : Nat} (hi : i < 4) : (nmb i).size = 3 := by
  match i, hi with
  | 0, _ => rfl
  | 1, _ => rfl
  | 2, _ => rfl
  | 3, _ => rfl
theorem minor_in {n : Int} (hn : -10000000000000 ≤ n ∧ n ≤ 10000000000000) : InR n := ⟨by rw [M127_eq]; omega, by rw [M127_eq]; omega⟩
set_option maxHeartbeats 4000000 in
set_option maxRecDepth 100000 in
theorem mwrite_at (i K : Nat) (n : Int) (w : World) (T : Cu w) (N : Cm w) (hi : i < 4) (hn : -10000000000000 ≤ n ∧ n ≤ 10000000000000) (tt : ByteArray) (hsz : tt.size ≤ 41) (hW : ∀ w, Calls Tryz.prog 12 #[.agg (dcs n (cdg i)).toArray] w fun e w' => e = .returned (.tuple #[.string tt, .int .i64 0]) ∧ Below w.heap.size w w') :
    Calls Tryz.prog 5 #[.agg (mcl i n).toArray] w fun e w' => e = .returned (.tuple #[.string (nmb i ++ ⟨#[32]⟩ ++ tt), .int .i64 0]) ∧ Below w.heap.size w w' := by
  have HW := (show Hid _ from hW)
  have HT := (show Hid _ from fun w T => To_ok i n w T hi hn)
  have hp : 0 < w.heap.size := T.lt
  have hs3 := nmb_size hi
  have VM_0 := (show Hid _ from va_new w (mcl i n) 23)
  have BB_0 := (show Hid _ from (Below.refl w.heap.size w).alloc (Nat.le_refl _) (.cells (mcl i n).toArray 23))
  have CU_0 := (show Hid _ from T.alloc (.cells (mcl i n).toArray 23))
  have CM_0 := (show Hid _ from N.alloc (.cells (mcl i n).toArray 23))
  clear T N hW hn
  go_enter Tryz.func5, Tryz.ntmps5
  go_wp2_with (refine ldA rfl 23 _ rfl w.heap.size (by rfl) (mcl i n) _ VM_0.out _ Tryz.underlying23 rfl infoM ?_)
  refine (HT.out _ CU_0.out).mono ?_
  rintro e w1 ⟨rfl, b1⟩
  have VM_1 := (show Hid _ from VM_0.out.step b1)
  have CM_1 := (show Hid _ from CM_0.out.step b1)
  have BB_1 := (show Hid _ from BB_0.out.trans (b1.mono BB_0.out.size))
  have hml := VM_1.out.lt
  clear b1 VM_0 CM_0 CU_0 BB_0
  have VX_2 := (show Hid _ from va_new w1 (dcs n (cdg i)) 41)
  have VM_2 := (show Hid _ from VM_1.out.alloc (.cells (dcs n (cdg i)).toArray 41))
  have CM_2 := (show Hid _ from CM_1.out.alloc (.cells (dcs n (cdg i)).toArray 41))
  have BB_2 := (show Hid _ from BB_1.out.alloc BB_1.out.size (.cells (dcs n (cdg i)).toArray 41))
  unfold dcs
  go_upto_region 4 with fail
  change Code.wp _ _ _ _ (w1.alloc (.cells (dcs n (cdg i)).toArray 41))
  change Hid (VA (w1.alloc (.cells (dcs n (cdg i)).toArray 41)) _ _ _) at VX_2
  generalize w1.alloc (.cells (dcs n (cdg i)).toArray 41) = w2 at *
  generalize w1.heap.size = q at *
  clear VM_1 CM_1 BB_1
  go_wp2_with (refine ldA rfl 41 _ rfl q (by rfl) (dcs n (cdg i)) _ VX_2.out _ Tryz.underlying41 rfl infoD ?_)
  refine (HW.out _).mono ?_
  rintro e w3 ⟨rfl, b3⟩
  have VM_3 := (show Hid _ from VM_2.out.step b3)
  have CM_3 := (show Hid _ from CM_2.out.step b3)
  have BB_3 := (show Hid _ from BB_2.out.trans (b3.mono BB_2.out.size))
  clear b3 VM_2 CM_2 BB_2 VX_2
  have m0 := VM_3.out.cell 0 (v := .int .i64 (i : Int)) rfl
  have c0 := CM_3.out.row i hi
  have z1 : 3 + 1 + tt.size ≤ 9223372036854775807 := by omega
  obtain ⟨nm, hnm⟩ : ∃ nm, nm = nmb i := ⟨_, rfl⟩
  rw [← hnm] at c0 hs3
  have HNM := (show Hid _ from hnm)
  clear hnm
  go_wp2_with fail
  exact bodyPost_ret (v := .tuple #[.string (nm ++ ⟨#[32]⟩ ++ tt), .int .i64 0]) (by simp [results, Tryz.results5, go_sem]) rfl ⟨by rw [HNM.out], BB_3.out⟩
end Go.Proofs.YteohncnjjgoemaaGreatDoor
/- money: named: a currency by its name. -/
namespace Go.Proofs.YteohncnjjgoemaaGreatDoor
open Go.RowKit
set_option linter.unusedVariables false
set_option linter.unusedSimpArgs false

def cs8 : List Value := [.string (nmb 0), .int .i64 2, .string (nmb 1), .int .i64 2, .string (nmb 2), .int .i64 0, .string (nmb 3), .int .i64 3]
theorem cs8_at {w : World} (T : Cu w) (N : Cm w) : ∀ j v, cs8[j]? = some v → w.cell? ⟨0, 0 + j, none⟩ = some v := by
  intro j v hv
  rw [Nat.zero_add]
  match j, hv with
  | 0, hv => rw [← hv]; exact N.row 0 (by decide)
  | 1, hv => rw [← hv]; exact T.row 0 (by decide)
  | 2, hv => rw [← hv]; exact N.row 1 (by decide)
  | 3, hv => rw [← hv]; exact T.row 1 (by decide)
  | 4, hv => rw [← hv]; exact N.row 2 (by decide)
  | 5, hv => rw [← hv]; exact T.row 2 (by decide)
  | 6, hv => rw [← hv]; exact N.row 3 (by decide)
  | 7, hv => rw [← hv]; exact T.row 3 (by decide)
  | j + 8, hv => simp [cs8] at hv
theorem info8c : (Tryz.prog.info? 47).map (·.size) = some 8 := by kernel_rfl
theorem ix8_0 (n0 n1 n2 n3 : ByteArray) (w : World) : (Instr.index 47 (.agg #[.string n0, .int .i64 2, .string n1, .int .i64 2, .string n2, .int .i64 0, .string n3, .int .i64 3]) (.int .i64 0)).run Tryz.prog w = .ok (.agg #[.string n0, .int .i64 2]) w := by kernel_rfl
theorem ix8_1 (n0 n1 n2 n3 : ByteArray) (w : World) : (Instr.index 47 (.agg #[.string n0, .int .i64 2, .string n1, .int .i64 2, .string n2, .int .i64 0, .string n3, .int .i64 3]) (.int .i64 1)).run Tryz.prog w = .ok (.agg #[.string n1, .int .i64 2]) w := by kernel_rfl
theorem ix8_2 (n0 n1 n2 n3 : ByteArray) (w : World) : (Instr.index 47 (.agg #[.string n0, .int .i64 2, .string n1, .int .i64 2, .string n2, .int .i64 0, .string n3, .int .i64 3]) (.int .i64 2)).run Tryz.prog w = .ok (.agg #[.string n2, .int .i64 0]) w := by kernel_rfl
theorem ix8_3 (n0 n1 n2 n3 : ByteArray) (w : World) : (Instr.index 47 (.agg #[.string n0, .int .i64 2, .string n1, .int .i64 2, .string n2, .int .i64 0, .string n3, .int .i64 3]) (.int .i64 3)).run Tryz.prog w = .ok (.agg #[.string n3, .int .i64 3]) w := by kernel_rfl
set_option maxHeartbeats 4000000 in
set_option maxRecDepth 100000 in
theorem named_no (nm : ByteArray) (w : World) (T : Cu w) (N : Cm w) (h : ∀ i, i < 4 → ((nmb i).toList == nm.toList) = false) :
    Calls Tryz.prog 19 #[.string nm] w fun e w' => e = .returned (.tuple #[.int .i64 0, .bool false]) ∧ Below w.heap.size w w' := by
  have h0 := h 0 (by decide)
  have h1 := h 1 (by decide)
  have h2 := h 2 (by decide)
  have h3 := h 3 (by decide)
  have HC := (show Hid _ from cs8_at T N)
  clear T N h
  go_enter Tryz.func19, Tryz.ntmps19
  go_wp2_with (refine wpList_load_mid rfl 47 _ rfl 0 0 (by rfl) cs8 _ HC.out Tryz.underlying47 rfl info8c ?_)
  unfold cs8
  generalize nmb 0 = n0 at *
  generalize nmb 1 = n1 at *
  generalize nmb 2 = n2 at *
  generalize nmb 3 = n3 at *
  have x0 := ix8_0 n0 n1 n2 n3
  have x1 := ix8_1 n0 n1 n2 n3
  have x2 := ix8_2 n0 n1 n2 n3
  have x3 := ix8_3 n0 n1 n2 n3
  clear HC
  refine wp_loop_rounds 5 ?_
  rw [rounds_succ]
  go_wp2_with fail
  rw [rounds_succ]
  go_wp2_with fail
  rw [rounds_succ]
  go_wp2_with fail
  rw [rounds_succ]
  go_wp2_with fail
  rw [rounds_succ]
  go_wp2_with fail
  refine bodyPost_ret (v := .tuple #[.int .i64 0, .bool false]) (by simp [results, Tryz.results19, go_sem]) rfl ⟨rfl, ?_⟩
  repeat (first | exact Below.refl _ _ | refine Below.alloc ?_ (by simp <;> omega) _)
set_option maxHeartbeats 4000000 in
set_option maxRecDepth 100000 in
theorem named_0 (nm : ByteArray) (w : World) (T : Cu w) (N : Cm w) (hy : ((nmb 0).toList == nm.toList) = true) :
    Calls Tryz.prog 19 #[.string nm] w fun e w' => e = .returned (.tuple #[.int .i64 0, .bool true]) ∧ Below w.heap.size w w' := by
  have HC := (show Hid _ from cs8_at T N)
  clear T N
  go_enter Tryz.func19, Tryz.ntmps19
  go_wp2_with (refine wpList_load_mid rfl 47 _ rfl 0 0 (by rfl) cs8 _ HC.out Tryz.underlying47 rfl info8c ?_)
  unfold cs8
  generalize nmb 0 = n0 at *
  generalize nmb 1 = n1 at *
  generalize nmb 2 = n2 at *
  generalize nmb 3 = n3 at *
  have x0 := ix8_0 n0 n1 n2 n3
  have x1 := ix8_1 n0 n1 n2 n3
  have x2 := ix8_2 n0 n1 n2 n3
  have x3 := ix8_3 n0 n1 n2 n3
  clear HC
  refine wp_loop_rounds 5 ?_
  rw [rounds_succ]
  go_wp2_with fail
  refine bodyPost_ret (v := .tuple #[.int .i64 0, .bool true]) (by simp [results, Tryz.results19, go_sem]) rfl ⟨rfl, ?_⟩
  repeat (first | exact Below.refl _ _ | refine Below.alloc ?_ (by simp <;> omega) _)
set_option maxHeartbeats 4000000 in
set_option maxRecDepth 100000 in
theorem named_1 (nm : ByteArray) (w : World) (T : Cu w) (N : Cm w) (hy : ((nmb 1).toList == nm.toList) = true) (h0 : ((nmb 0).toList == nm.toList) = false) :
    Calls Tryz.prog 19 #[.string nm] w fun e w' => e = .returned (.tuple #[.int .i64 1, .bool true]) ∧ Below w.heap.size w w' := by
  have HC := (show Hid _ from cs8_at T N)
  clear T N
  go_enter Tryz.func19, Tryz.ntmps19
  go_wp2_with (refine wpList_load_mid rfl 47 _ rfl 0 0 (by rfl) cs8 _ HC.out Tryz.underlying47 rfl info8c ?_)
  unfold cs8
  generalize nmb 0 = n0 at *
  generalize nmb 1 = n1 at *
  generalize nmb 2 = n2 at *
  generalize nmb 3 = n3 at *
  have x0 := ix8_0 n0 n1 n2 n3
  have x1 := ix8_1 n0 n1 n2 n3
  have x2 := ix8_2 n0 n1 n2 n3
  have x3 := ix8_3 n0 n1 n2 n3
  clear HC
  refine wp_loop_rounds 5 ?_
  rw [rounds_succ]
  go_wp2_with fail
  rw [rounds_succ]
  go_wp2_with fail
  refine bodyPost_ret (v := .tuple #[.int .i64 1, .bool true]) (by simp [results, Tryz.results19, go_sem]) rfl ⟨rfl, ?_⟩
  repeat (first | exact Below.refl _ _ | refine Below.alloc ?_ (by simp <;> omega) _)
set_option maxHeartbeats 4000000 in
set_option maxRecDepth 100000 in
theorem named_2 (nm : ByteArray) (w : World) (T : Cu w) (N : Cm w) (hy : ((nmb 2).toList == nm.toList) = true) (h0 : ((nmb 0).toList == nm.toList) = false) (h1 : ((nmb 1).toList == nm.toList) = false) :
    Calls Tryz.prog 19 #[.string nm] w fun e w' => e = .returned (.tuple #[.int .i64 2, .bool true]) ∧ Below w.heap.size w w' := by
  have HC := (show Hid _ from cs8_at T N)
  clear T N
  go_enter Tryz.func19, Tryz.ntmps19
  go_wp2_with (refine wpList_load_mid rfl 47 _ rfl 0 0 (by rfl) cs8 _ HC.out Tryz.underlying47 rfl info8c ?_)
  unfold cs8
  generalize nmb 0 = n0 at *
  generalize nmb 1 = n1 at *
  generalize nmb 2 = n2 at *
  generalize nmb 3 = n3 at *
  have x0 := ix8_0 n0 n1 n2 n3
  have x1 := ix8_1 n0 n1 n2 n3
  have x2 := ix8_2 n0 n1 n2 n3
  have x3 := ix8_3 n0 n1 n2 n3
  clear HC
  refine wp_loop_rounds 5 ?_
  rw [rounds_succ]
  go_wp2_with fail
  rw [rounds_succ]
  go_wp2_with fail
  rw [rounds_succ]
  go_wp2_with fail
  refine bodyPost_ret (v := .tuple #[.int .i64 2, .bool true]) (by simp [results, Tryz.results19, go_sem]) rfl ⟨rfl, ?_⟩
  repeat (first | exact Below.refl _ _ | refine Below.alloc ?_ (by simp <;> omega) _)
set_option maxHeartbeats 4000000 in
set_option maxRecDepth 100000 in
theorem named_3 (nm : ByteArray) (w : World) (T : Cu w) (N : Cm w) (hy : ((nmb 3).toList == nm.toList) = true) (h0 : ((nmb 0).toList == nm.toList) = false) (h1 : ((nmb 1).toList == nm.toList) = false) (h2 : ((nmb 2).toList == nm.toList) = false) :
    Calls Tryz.prog 19 #[.string nm] w fun e w' => e = .returned (.tuple #[.int .i64 3, .bool true]) ∧ Below w.heap.size w w' := by
  have HC := (show Hid _ from cs8_at T N)
  clear T N
  go_enter Tryz.func19, Tryz.ntmps19
  go_wp2_with (refine wpList_load_mid rfl 47 _ rfl 0 0 (by rfl) cs8 _ HC.out Tryz.underlying47 rfl info8c ?_)
  unfold cs8
  generalize nmb 0 = n0 at *
  generalize nmb 1 = n1 at *
  generalize nmb 2 = n2 at *
  generalize nmb 3 = n3 at *
  have x0 := ix8_0 n0 n1 n2 n3
  have x1 := ix8_1 n0 n1 n2 n3
  have x2 := ix8_2 n0 n1 n2 n3
  have x3 := ix8_3 n0 n1 n2 n3
  clear HC
  refine wp_loop_rounds 5 ?_
  rw [rounds_succ]
  go_wp2_with fail
  rw [rounds_succ]
  go_wp2_with fail
  rw [rounds_succ]
  go_wp2_with fail
  rw [rounds_succ]
  go_wp2_with fail
  refine bodyPost_ret (v := .tuple #[.int .i64 3, .bool true]) (by simp [results, Tryz.results19, go_sem]) rfl ⟨rfl, ?_⟩
  repeat (first | exact Below.refl _ _ | refine Below.alloc ?_ (by simp <;> omega) _)
end Go.Proofs.YteohncnjjgoemaaGreatDoor
