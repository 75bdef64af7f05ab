/- log XIII: Open of an empty disk. -/
import Derived.Test.YtkmdegmpffgplaaGreatDoorLbn
namespace Go.Proofs.YtkmdegmpffgplaaGreatDoor
open Go.RowKit Go.Maps Go.Sort Go.Shelf pk
set_option linter.unusedVariables false
set_option linter.unusedSimpArgs false
/-- a log that was just made -/
def lg0 (per : Nat) : LG := ⟨per, 0, 0, 0, List.replicate 32 0, false⟩
set_option maxRecDepth 100000 in
theorem bldG_run (p per : Nat) (w : World) : (Instr.build 73 #[(0, .pointer (some ⟨p, 0, none⟩)), (1, .int .i64 (per : Int))]).run Tryz.prog w = .ok (.agg ((lg0 per).cells p).toArray) w := by
  kernel_rfl
theorem bldG {w : World} {ops : Array Oper} {rest : List Oper} {o : Oper} {ac : Act} {Q : Exit → Act → World → Prop} (hgd : o.guard = none) (x y : Operand) (ho : o.op = .build 73 #[(0, x), (1, y)])
    (p per : Nat) (hx : ac.eval x = .pointer (some ⟨p, 0, none⟩)) (hy : ac.eval y = .int .i64 (per : Int))
    (h : wpList Tryz.prog ops Q rest (ac.put o.dst (.agg ((lg0 per).cells p).toArray)) w) : wpList Tryz.prog ops Q (o :: rest) ac w := by
  refine wpList_plain hgd fun K hK' => ?_
  have hrun := bldG_run p per w
  unfold Oper.wp execOp
  simp only [ho, List.map_toArray, List.map_cons, List.map_nil, hx, hy, Sem.run_bind, hrun, Result.andThen_ok, Sem.run_pure]
  exact hK' _ _ h
set_option maxRecDepth 100000 in
set_option maxHeartbeats 2000000 in
theorem open_empty (w : World) (B p m : Nat) (x : AD) (h : DA w B p m x) (hon : x.on = true) (hfs : x.fs = []) (per : Nat) (h1 : 1 ≤ per) (h2 : per ≤ 1000) :
    Calls Tryz.prog 12 #[.pointer (some ⟨p, 0, none⟩), .int .i64 (per : Int)] w fun e w' => ∃ lp, w.heap.size ≤ lp ∧ e = .returned (.tuple #[.pointer (some ⟨lp, 0, none⟩), .slice none 0 0, .int .i64 0]) ∧ Lg w' lp p ⟨per, 0, 0, 1, List.replicate 32 0, false⟩ ∧ DA w' B p m x ∧ Below w.heap.size w w' := by
  have HA : Hid (DA w B p m x) := h
  have HON := (show Hid _ from on_any w B p m x h)
  have HNA := (show Hid _ from fun w' (k : Below w.heap.size w w') => names_any w' B p m x (h.step k))
  have HOK : Hid (lg0 per).ok := ⟨⟨h1, h2⟩, Nat.zero_le _, Nat.zero_le _, Nat.zero_le _⟩
  have HFS : Hid (nms x.fs = []) := (show nms x.fs = [] by rw [hfs]; rfl)
  rw [hon] at HON
  have d1 : ¬ (per : Int) < 1 := by omega
  have d2 : ¬ (1000 : Int) < (per : Int) := by omega
  clear h hfs h1 h2
  go_enter Tryz.func12, Tryz.ntmps12
  go_wp2_with fail
  refine Calls.mono HON.out ?_
  rintro e w1 ⟨rfl, rfl⟩
  go_upto_region 8 with (refine bldG rfl _ _ rfl p per (by rfl) (by rfl) ?_)
  have D := (Below.refl w1.heap.size w1).alloc (Nat.le_refl _) (.cells ((lg0 per).cells p).toArray 73)
  have HD := (show Hid _ from D)
  have HG : Hid (Lg (w1.alloc (.cells ((lg0 per).cells p).toArray 73)) w1.heap.size p (lg0 per)) := va_new w1 ((lg0 per).cells p) 73
  clear D HON
  generalize w1.alloc (.cells ((lg0 per).cells p).toArray 73) = w2 at *
  obtain ⟨lp, hlp⟩ : ∃ lp, lp = w1.heap.size := ⟨_, rfl⟩
  have HLP : Hid (lp = w1.heap.size) := hlp
  rw [← hlp] at HG ⊢
  clear hlp
  go_wp2_with fail
  refine Calls.mono (HNA.out _ HD.out) ?_
  rintro e w3 ⟨v, ns, rfl, hp, _, _, _, hnil, b3⟩
  have hns : ns = [] := by
    have h1 := hp hon
    have h2 : x.fs.map (·.1) = [] := HFS.out
    rw [h2] at h1
    exact List.perm_nil.1 h1
  have hv := hnil.2 hns
  subst hv
  have HD3 : Hid (Below w1.heap.size w1 w3) := HD.out.trans (b3.mono HD.out.size)
  have HG3 : Hid (Lg w3 lp p (lg0 per)) := HG.out.step b3
  clear hns hp hnil b3 HD HG HNA
  go_wp2_with fail
  refine (numbers_ok w3 (.slice none 0 0) [] ⟨none, 0, rfl, by simp, by omega, fun i l h => by simp at h⟩ (fun n h => by cases h) (by simp)).mono ?_
  rintro e w4 ⟨⟨u, rfl, o4⟩, b4⟩
  obtain ⟨ua, uc, rfl, _⟩ := o4.form
  have HD4 : Hid (Below w1.heap.size w1 w4) := HD3.out.trans (b4.mono HD3.out.size)
  have HG4 : Hid (Lg w4 lp p (lg0 per)) := HG3.out.step b4
  clear o4 b4 HD3 HG3
  go_wp2_with fail
  refine (read_none w4 lp p (lg0 per) HG4.out HOK.out ua uc).mono ?_
  rintro e w5 ⟨rfl, hL5, hB5⟩
  have HL5 : Hid (Lg w5 lp p ⟨per, 0, 0, 1, List.replicate 32 0, false⟩) := by
    have h0 : ({ lg0 per with high := (lg0 per).low, next := (lg0 per).low * (lg0 per).per + 1 } : LG) = ⟨per, 0, 0, 1, List.replicate 32 0, false⟩ := by
      show (⟨per, 0, 0, 0 * per + 1, List.replicate 32 0, false⟩ : LG) = _
      rw [Nat.zero_mul]
    rw [h0] at hL5
    exact hL5
  have HA5 : Hid (DA w5 B p m x) := (HA.out.step HD4.out).kel (hB5.kel HG4.out)
  have HB5 : Hid (Below w1.heap.size w1 w5) := HD4.out.trans (hB5.below HD4.out.size (fun i hi => by have h1 : i = lp := hi; have h2 := HLP.out; omega))
  clear hL5 hB5 HG4 HD4
  go_wp2_with fail
  refine bodyPost_ret (v := .tuple #[.pointer (some ⟨lp, 0, none⟩), .slice none 0 0, .int .i64 0]) (by simp [results, Tryz.results12, go_sem, asAddr]) rfl ?_
  exact ⟨lp, Nat.le_of_eq HLP.out.symm, rfl, HL5.out, HA5.out, HB5.out⟩
end Go.Proofs.YtkmdegmpffgplaaGreatDoor
/- log XIV: a nil log, a nil disk; the document's answers. -/
namespace Go.Proofs.YtkmdegmpffgplaaGreatDoor
open Go.RowKit Go.Maps Go.Sort Go.Shelf pk
set_option linter.unusedVariables false
set_option linter.unusedSimpArgs false
/-- what Append answers without a log; Open without a disk -/
def anil (L : Nat) : Nat := if 4096 < L then 2 else if L = 0 then 3 else 7
def onil (per : Int) : Nat := if per < 1 ∨ 1000 < per then 1 else 7
set_option maxRecDepth 100000 in
theorem append_nil (w : World) (a : Option Addr) (L k : Nat) : Calls Tryz.prog 9 #[.pointer none, .slice a L k] w fun r w' => r = .returned (.tuple #[.int .i64 0, .int .i64 (anil L : Nat)]) ∧ w' = w := by
  by_cases h1 : 4096 < L
  · have e : anil L = 2 := by unfold anil; rw [if_pos h1]
    rw [e]
    clear e
    have d1 : (4096 : Int) < (L : Int) := by omega
    go_enter Tryz.func9, Tryz.ntmps9
    go_wp2_with fail
    refine bodyPost_ret (v := .tuple #[.int .i64 0, .int .i64 2]) (by simp [results, Tryz.results9, go_sem, asAddr]) rfl ?_
    exact ⟨rfl, rfl⟩
  by_cases h2 : L = 0
  · have e : anil L = 3 := by unfold anil; rw [if_neg h1, if_pos h2]
    rw [e]
    clear e
    subst h2
    go_enter Tryz.func9, Tryz.ntmps9
    go_wp2_with fail
    refine bodyPost_ret (v := .tuple #[.int .i64 0, .int .i64 3]) (by simp [results, Tryz.results9, go_sem, asAddr]) rfl ?_
    exact ⟨rfl, rfl⟩
  have e : anil L = 7 := by unfold anil; rw [if_neg h1, if_neg h2]
  rw [e]
  clear e
  have d1 : ¬ (4096 : Int) < (L : Int) := by omega
  have d2 : ¬ (L : Int) = 0 := by omega
  have d3 : ((L : Int) == 0) = false := by simp; omega
  go_enter Tryz.func9, Tryz.ntmps9
  go_wp2_with fail
  refine bodyPost_ret (v := .tuple #[.int .i64 0, .int .i64 7]) (by simp [results, Tryz.results9, go_sem, asAddr]) rfl ?_
  exact ⟨rfl, rfl⟩
set_option maxRecDepth 100000 in
theorem docappend_nil (w : World) (a : Option Addr) (L k : Nat) : Calls Tryz.prog 11 #[.pointer none, .slice a L k] w fun r w' => r = .returned (.tuple #[.int .i64 0, .int .i64 (anil L : Nat)]) ∧ w' = w := by
  by_cases h1 : 4096 < L
  · have e : anil L = 2 := by unfold anil; rw [if_pos h1]
    rw [e]
    clear e
    have d1 : (4096 : Int) < (L : Int) := by omega
    go_enter Tryz.func11, Tryz.ntmps11
    go_wp2_with fail
    refine bodyPost_ret (v := .tuple #[.int .i64 0, .int .i64 2]) (by simp [results, Tryz.results11, go_sem, asAddr]) rfl ?_
    exact ⟨rfl, rfl⟩
  by_cases h2 : L = 0
  · have e : anil L = 3 := by unfold anil; rw [if_neg h1, if_pos h2]
    rw [e]
    clear e
    subst h2
    go_enter Tryz.func11, Tryz.ntmps11
    go_wp2_with fail
    refine bodyPost_ret (v := .tuple #[.int .i64 0, .int .i64 3]) (by simp [results, Tryz.results11, go_sem, asAddr]) rfl ?_
    exact ⟨rfl, rfl⟩
  have e : anil L = 7 := by unfold anil; rw [if_neg h1, if_neg h2]
  rw [e]
  clear e
  have d1 : ¬ (4096 : Int) < (L : Int) := by omega
  have d2 : ¬ (L : Int) = 0 := by omega
  have d3 : ((L : Int) == 0) = false := by simp; omega
  go_enter Tryz.func11, Tryz.ntmps11
  go_wp2_with fail
  refine bodyPost_ret (v := .tuple #[.int .i64 0, .int .i64 7]) (by simp [results, Tryz.results11, go_sem, asAddr]) rfl ?_
  exact ⟨rfl, rfl⟩
set_option maxRecDepth 100000 in
theorem open_nil (w : World) (per : Int) : Calls Tryz.prog 12 #[.pointer none, .int .i64 per] w fun r w' => r = .returned (.tuple #[.pointer none, .slice none 0 0, .int .i64 (onil per : Nat)]) ∧ w' = w := by
  by_cases h1 : per < 1
  · have e : onil per = 1 := by unfold onil; rw [if_pos (Or.inl h1)]
    rw [e]
    clear e
    go_enter Tryz.func12, Tryz.ntmps12
    go_wp2_with fail
    refine bodyPost_ret (v := .tuple #[.pointer none, .slice none 0 0, .int .i64 1]) (by simp [results, Tryz.results12, go_sem, asAddr]) rfl ?_
    exact ⟨rfl, rfl⟩
  by_cases h2 : 1000 < per
  · have e : onil per = 1 := by unfold onil; rw [if_pos (Or.inr h2)]
    rw [e]
    clear e
    go_enter Tryz.func12, Tryz.ntmps12
    go_wp2_with fail
    refine bodyPost_ret (v := .tuple #[.pointer none, .slice none 0 0, .int .i64 1]) (by simp [results, Tryz.results12, go_sem, asAddr]) rfl ?_
    exact ⟨rfl, rfl⟩
  have e : onil per = 7 := by unfold onil; rw [if_neg (by omega)]
  rw [e]
  clear e
  go_enter Tryz.func12, Tryz.ntmps12
  go_wp2_with fail
  refine bodyPost_ret (v := .tuple #[.pointer none, .slice none 0 0, .int .i64 7]) (by simp [results, Tryz.results12, go_sem, asAddr]) rfl ?_
  exact ⟨rfl, rfl⟩
set_option maxRecDepth 100000 in
theorem docopen_nil (w : World) (per : Int) : Calls Tryz.prog 13 #[.pointer none, .int .i64 per] w fun r w' => r = .returned (.tuple #[.pointer none, .slice none 0 0, .int .i64 (onil per : Nat)]) ∧ w' = w := by
  by_cases h1 : per < 1
  · have e : onil per = 1 := by unfold onil; rw [if_pos (Or.inl h1)]
    rw [e]
    clear e
    go_enter Tryz.func13, Tryz.ntmps13
    go_wp2_with fail
    refine bodyPost_ret (v := .tuple #[.pointer none, .slice none 0 0, .int .i64 1]) (by simp [results, Tryz.results13, go_sem, asAddr]) rfl ?_
    exact ⟨rfl, rfl⟩
  by_cases h2 : 1000 < per
  · have e : onil per = 1 := by unfold onil; rw [if_pos (Or.inr h2)]
    rw [e]
    clear e
    go_enter Tryz.func13, Tryz.ntmps13
    go_wp2_with fail
    refine bodyPost_ret (v := .tuple #[.pointer none, .slice none 0 0, .int .i64 1]) (by simp [results, Tryz.results13, go_sem, asAddr]) rfl ?_
    exact ⟨rfl, rfl⟩
  have e : onil per = 7 := by unfold onil; rw [if_neg (by omega)]
  rw [e]
  clear e
  go_enter Tryz.func13, Tryz.ntmps13
  go_wp2_with fail
  refine bodyPost_ret (v := .tuple #[.pointer none, .slice none 0 0, .int .i64 7]) (by simp [results, Tryz.results13, go_sem, asAddr]) rfl ?_
  exact ⟨rfl, rfl⟩
theorem prune_nil (w : World) (n : Int) : Calls Tryz.prog 15 #[.pointer none, .int .i64 n] w fun r w' => r = .returned (.int .i64 7) ∧ w' = w := by
  go_enter Tryz.func15, Tryz.ntmps15
  go_wp2_with fail
  go_ret
  exact ⟨rfl, rfl⟩
theorem first_nil (w : World) : Calls Tryz.prog 16 #[.pointer none] w fun r w' => r = .returned (.int .i64 0) ∧ w' = w := by
  go_enter Tryz.func16, Tryz.ntmps16
  go_wp2_with fail
  go_ret
  exact ⟨rfl, rfl⟩
theorem next_nil (w : World) : Calls Tryz.prog 17 #[.pointer none] w fun r w' => r = .returned (.int .i64 0) ∧ w' = w := by
  go_enter Tryz.func17, Tryz.ntmps17
  go_wp2_with fail
  go_ret
  exact ⟨rfl, rfl⟩
end Go.Proofs.YtkmdegmpffgplaaGreatDoor
