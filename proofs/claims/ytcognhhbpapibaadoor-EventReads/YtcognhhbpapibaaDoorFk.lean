/- event: Read and the document's Read of bytes that are too long; the walk of EventReads. -/
import Derived.Test.YtcognhhbpapibaaDoorFj
namespace Go.Proofs.YtcognhhbpapibaaDoor
open Go.RowKit
set_option linter.unusedVariables false

set_option maxHeartbeats 1000000 in
set_option maxRecDepth 100000 in
theorem read_long (v : Value) (bs : List Nat) (w : World) (hv : Bs w v bs) (hl : 4096 < bs.length) :
    Calls Tryd.prog 17 #[v] w fun r w' => r = .returned (.tuple #[.agg (E8.cells ⟨0, 0, List.replicate 8 0, []⟩ (.slice none 0 0)).toArray, .int .i64 2]) ∧ Below w.heap.size w w' := by
  obtain ⟨L, hL⟩ : ∃ L, L = bs.length := ⟨_, rfl⟩
  obtain ⟨a, c, rfl, hlc, hc9⟩ : ∃ a c, v = .slice a L c ∧ L ≤ c ∧ c ≤ 9223372036854775807 := by obtain ⟨_, a, c, e, h1, h2, _⟩ := hv; exact ⟨a, c, by rw [hL]; exact e, by rw [hL]; exact h1, h2⟩
  rw [← hL] at hl
  have D1 := (Below.refl w.heap.size w).alloc (Nat.le_refl _) (.cells (E8.cells ⟨0, 0, List.replicate 8 0, []⟩ (.slice none 0 0)).toArray 26)
  have V1 := va_new w (E8.cells ⟨0, 0, List.replicate 8 0, []⟩ (.slice none 0 0)) 26
  have HD := (show Hid _ from D1)
  have HV := (show Hid _ from V1)
  have d1 : (4096 : Int) < (L : Int) := by omega
  clear hL hv D1 V1
  go_enter Tryd.func17, Tryd.ntmps17
  go_wp2_with (refine stA rfl 26 _ _ rfl w.heap.size (by rfl) _ (E8.cells ⟨0, 0, List.replicate 8 0, []⟩ (.slice none 0 0)) (by rfl) _ HV.out (info26.trans rfl) rfl (fun u hu => ev_one hu) ?_; intro w4 R4 U4)
  refine bodyPost_ret (v := .tuple #[.agg (E8.cells ⟨0, 0, List.replicate 8 0, []⟩ (.slice none 0 0)).toArray, .int .i64 2]) ?_ rfl ⟨rfl, U4.bel HD.out (Nat.le_refl _)⟩
  have hld := run_loadVar_row (P := Tryd.prog) w4 w.heap.size 26 26 _ (0, 0) _ R4.blk Tryd.underlying26 rfl (info26.trans rfl)
  simp [results, Tryd.results17, asAddr, hld]
set_option maxHeartbeats 1000000 in
set_option maxRecDepth 100000 in
theorem docread_long (v : Value) (bs : List Nat) (w : World) (hv : Bs w v bs) (hl : 4096 < bs.length) :
    Calls Tryd.prog 19 #[v] w fun r w' => r = .returned (.tuple #[.agg (E8.cells ⟨0, 0, List.replicate 8 0, []⟩ (.slice none 0 0)).toArray, .int .i64 2]) ∧ Below w.heap.size w w' := by
  obtain ⟨L, hL⟩ : ∃ L, L = bs.length := ⟨_, rfl⟩
  obtain ⟨a, c, rfl, hlc, hc9⟩ : ∃ a c, v = .slice a L c ∧ L ≤ c ∧ c ≤ 9223372036854775807 := by obtain ⟨_, a, c, e, h1, h2, _⟩ := hv; exact ⟨a, c, by rw [hL]; exact e, by rw [hL]; exact h1, h2⟩
  rw [← hL] at hl
  have D1 := (Below.refl w.heap.size w).alloc (Nat.le_refl _) (.cells (E8.cells ⟨0, 0, List.replicate 8 0, []⟩ (.slice none 0 0)).toArray 26)
  have V1 := va_new w (E8.cells ⟨0, 0, List.replicate 8 0, []⟩ (.slice none 0 0)) 26
  have HD := (show Hid _ from D1)
  have HV := (show Hid _ from V1)
  have d1 : (4096 : Int) < (L : Int) := by omega
  clear hL hv D1 V1
  go_enter Tryd.func19, Tryd.ntmps19
  go_wp2_with (refine stA rfl 26 _ _ rfl w.heap.size (by rfl) _ (E8.cells ⟨0, 0, List.replicate 8 0, []⟩ (.slice none 0 0)) (by rfl) _ HV.out (info26.trans rfl) rfl (fun u hu => ev_one hu) ?_; intro w4 R4 U4)
  refine bodyPost_ret (v := .tuple #[.agg (E8.cells ⟨0, 0, List.replicate 8 0, []⟩ (.slice none 0 0)).toArray, .int .i64 2]) ?_ rfl ⟨rfl, U4.bel HD.out (Nat.le_refl _)⟩
  have hld := run_loadVar_row (P := Tryd.prog) w4 w.heap.size 26 26 _ (0, 0) _ R4.blk Tryd.underlying26 rfl (info26.trans rfl)
  simp [results, Tryd.results19, asAddr, hld]
/-- what both readers answer: an event, or none; the number beside it -/
structure Both (w' : World) (bs : List Nat) (r : Ending) (x : E8) (e : Int) : Prop where
  ans : ∃ (a : Option Addr) (n k : Nat), r = .returned (.tuple #[.agg (x.cells (.slice a n k)).toArray, .int .i64 e]) ∧ Tr w' (.slice a n k) x.ts
theorem zero_ok : (E8.mk 0 0 (List.replicate 8 0) []).ok := got_ok (key := 0) (ns := []) (ts := []) (by omega) (by omega) (by simp) (fun n h => by cases h)
/-- the answer to bytes: an event in form with these bytes and 0; else the event of noughts, and 2 or 3 -/
theorem both (bs : List Nat) : ∃ (x : E8) (e : Int), x.ok ∧ (e = 0 → x.good ∧ x.bytes = bs) ∧ 0 ≤ e ∧ e ≤ 3 ∧
    (∀ v w, Tc w → Bs w v bs → Calls Tryd.prog 17 #[v] w fun r w' => Both w' bs r x e ∧ Below w.heap.size w w') ∧
    (∀ v w, Bs w v bs → Calls Tryd.prog 19 #[v] w fun r w' => Both w' bs r x e ∧ Below w.heap.size w w') := by
  by_cases hl : bs.length ≤ 4096
  · by_cases hx : ∃ x : E8, x.good ∧ x.bytes = bs
    · obtain ⟨x, hg, hb⟩ := hx
      refine ⟨x, 0, hg.ok, fun _ => ⟨hg, hb⟩, by omega, by omega, fun v w T h => ?_, fun v w h => ?_⟩
      · refine (read_yes v x w hg.ok hg.form hg.wf T (by rw [hb]; exact h)).mono ?_
        rintro r w' ⟨⟨tv, rfl, ht⟩, hbel⟩
        obtain ⟨a, n, c, rfl⟩ : ∃ a n c, tv = .slice a n c := by obtain ⟨_, a, c, e, _⟩ := ht; exact ⟨a, _, c, e⟩
        exact ⟨⟨a, n, c, rfl, ht⟩, hbel⟩
      · refine (docread_any v bs w h hl).mono ?_
        rintro r w' ⟨h1 | h1, hbel⟩
        · obtain ⟨y, a, n, k, gy, by', rfl, ht⟩ := h1
          obtain rfl : x = y := (bytes_iff hg gy).1 (hb.trans by'.symm)
          exact ⟨⟨a, n, k, rfl, ht⟩, hbel⟩
        · exact absurd hb (h1.2 x hg)
    · have hno : ∀ x : E8, x.good → x.bytes ≠ bs := fun x hg e => hx ⟨x, hg, e⟩
      refine ⟨_, 3, zero_ok, (fun e => absurd e (by decide)), by omega, by omega, fun v w T h => ?_, fun v w h => ?_⟩
      · refine (read_no v bs w T h hl hno).mono ?_
        rintro r w' ⟨rfl, hbel⟩
        exact ⟨⟨none, 0, 0, rfl, tr_nil _⟩, hbel⟩
      · refine (docread_any v bs w h hl).mono ?_
        rintro r w' ⟨h1 | h1, hbel⟩
        · obtain ⟨y, a, n, k, gy, by', _⟩ := h1
          exact absurd by' (hno y gy)
        · obtain ⟨rfl, _⟩ := h1
          exact ⟨⟨none, 0, 0, rfl, tr_nil _⟩, hbel⟩
  · refine ⟨_, 2, zero_ok, (fun e => absurd e (by decide)), by omega, by omega, fun v w T h => ?_, fun v w h => ?_⟩
    · refine (read_long v bs w h (by omega)).mono ?_
      rintro r w' ⟨rfl, hbel⟩
      exact ⟨⟨none, 0, 0, rfl, tr_nil _⟩, hbel⟩
    · refine (docread_long v bs w h (by omega)).mono ?_
      rintro r w' ⟨rfl, hbel⟩
      exact ⟨⟨none, 0, 0, rfl, tr_nil _⟩, hbel⟩
end Go.Proofs.YtcognhhbpapibaaDoor
