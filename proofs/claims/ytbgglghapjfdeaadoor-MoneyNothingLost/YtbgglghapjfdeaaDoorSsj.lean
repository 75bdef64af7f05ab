/- money: rows of shares; the comparison; handOut. -/
import Derived.Test.YtbgglghapjfdeaaDoorSsh
import Derived.Test.YtbgglghapjfdeaaDoorSsi
import Derived.Test.YtbgglghapjfdeaaDoorGy
namespace Go.Proofs.YtbgglghapjfdeaaDoor
open Go.RowKit
set_option linter.unusedVariables false

/-- the cells of a row of shares: units, rests -/
def shr (U R : Nat → Nat) (n : Nat) : List Value := (List.range (n * 2)).map fun c => Value.int .u64 (if c % 2 = 0 then (U (c / 2) : Int) else (R (c / 2) : Int))
theorem shr_len (U R : Nat → Nat) (n : Nat) : (shr U R n).length = n * 2 := by simp [shr]
theorem shr_u (U R : Nat → Nat) {n i : Nat} (h : i < n) : (shr U R n)[i * 2]? = some (.int .u64 (U i : Int)) := by
  simp only [shr, List.getElem?_map]
  rw [List.getElem?_range (by omega)]
  simp
theorem shr_r (U R : Nat → Nat) {n i : Nat} (h : i < n) : (shr U R n)[i * 2 + 1]? = some (.int .u64 (R i : Int)) := by
  simp only [shr, List.getElem?_map]
  rw [List.getElem?_range (by omega), Option.map_some, if_neg (by omega), show (i * 2 + 1) / 2 = i by omega]
/-- one is another -/
def upn (U : Nat → Nat) (i v : Nat) : Nat → Nat := fun j => if j = i then v else U j
theorem shr_set_u (U R : Nat → Nat) {n i : Nat} (h : i < n) (v : Nat) : (shr U R n).set (i * 2) (.int .u64 (v : Int)) = shr (upn U i v) R n := by
  refine List.ext_getElem? fun k => ?_
  by_cases hk : k < n * 2
  · simp only [shr, List.getElem?_set, List.getElem?_map, List.length_map, List.length_range]
    rw [List.getElem?_range hk]
    by_cases e1 : i * 2 = k
    · subst e1; rw [if_pos rfl, if_pos (by omega)]; simp [upn]
    · rw [if_neg e1]; simp only [Option.map_some, upn]
      by_cases e2 : k % 2 = 0
      · rw [if_pos e2, if_pos e2, if_neg (by omega)]
      · rw [if_neg e2, if_neg e2]
  · rw [List.getElem?_eq_none (by rw [List.length_set, shr_len]; omega), List.getElem?_eq_none (by rw [shr_len]; omega)]
theorem shr_set_r (U R : Nat → Nat) {n i : Nat} (h : i < n) (v : Nat) : (shr U R n).set (i * 2 + 1) (.int .u64 (v : Int)) = shr U (upn R i v) n := by
  refine List.ext_getElem? fun k => ?_
  by_cases hk : k < n * 2
  · simp only [shr, List.getElem?_set, List.getElem?_map, List.length_map, List.length_range]
    rw [List.getElem?_range hk]
    by_cases e1 : i * 2 + 1 = k
    · subst e1; rw [if_pos rfl, if_pos (by omega), Option.map_some, if_neg (by omega)]; simp only [upn]; rw [if_pos (by omega)]
    · rw [if_neg e1]; simp only [Option.map_some, upn]
      by_cases e2 : k % 2 = 0
      · rw [if_pos e2, if_pos e2]
      · rw [if_neg e2, if_neg e2, if_neg (by omega)]
  · rw [List.getElem?_eq_none (by rw [List.length_set, shr_len]; omega), List.getElem?_eq_none (by rw [shr_len]; omega)]
theorem shr_congr {U U' R R' : Nat → Nat} {n : Nat} (h : ∀ i, i < n → U i = U' i) (h' : ∀ i, i < n → R i = R' i) : shr U R n = shr U' R' n := by
  simp only [shr]
  refine List.map_congr_left fun c hc => ?_
  rw [List.mem_range] at hc
  rw [h _ (by omega), h' _ (by omega)]
theorem row_set (f : Nat → Nat) {n i : Nat} (h : i < n) (v : Nat) : (row f n).set i (.int .i64 (v : Int)) = row (upn f i v) n := by
  refine List.ext_getElem? fun k => ?_
  by_cases hk : k < n
  · rw [row_get _ hk, List.getElem?_set, row_len]
    by_cases e1 : i = k
    · subst e1; rw [if_pos rfl, if_pos hk]; simp [upn]
    · rw [if_neg e1, row_get _ hk]; simp only [upn]; rw [if_neg (fun e => e1 e.symm)]
  · rw [List.getElem?_eq_none (by rw [List.length_set, row_len]; omega), List.getElem?_eq_none (by rw [row_len]; omega)]
theorem row_congr {f g : Nat → Nat} {n : Nat} (h : ∀ i, i < n → f i = g i) : row f n = row g n := by
  simp only [row]
  exact List.map_congr_left fun c hc => by rw [List.mem_range] at hc; rw [h _ hc]
/-- make of n elements -/
theorem mkV {w : World} {ops : Array Oper} {rest : List Oper} {o : Oper} {a : Act} {Q : Exit → Act → World → Prop} (hgd : o.guard = none) (T e : TypeId) (l c : Operand) (ho : o.op = Op.makeSlice T l c) (hu : Tryd.prog.underlying T = some (.slice e)) (z : Value) (sz by_ n : Nat)
    (hz : (Tryd.prog.info? e).map (fun i => (i.zero, i.size, i.bytes)) = some (some z, sz, by_)) (hby : by_ ≤ 100) (hn : n ≤ 1000000) (cs : List Value) (hcs : madeCells z.cells (n * sz) = cs.toArray) (hl : a.eval l = .int .i64 (n : Int)) (hc : a.eval c = .int .i64 (n : Int))
    (h : ∀ w', VA w' w.heap.size cs e → Below w.heap.size w w' → wpList Tryd.prog ops Q rest (a.put o.dst (.slice (some ⟨w.heap.size, 0, none⟩) n n)) w') : wpList Tryd.prog ops Q (o :: rest) a w := by
  obtain ⟨i0, hi, hz'⟩ := Option.map_eq_some_iff.1 hz
  simp only [Prod.mk.injEq] at hz'
  obtain ⟨z1, z2, z3⟩ := hz'
  refine wpList_plain hgd fun K hK' => ?_
  have hb : (i0.bytes : Int) * (n : Int) ≤ 281474976710656 := by
    rw [z3]
    have h1 : by_ * n ≤ 100 * 1000000 := Nat.mul_le_mul hby hn
    have h2 : ((by_ * n : Nat) : Int) ≤ 100000000 := by omega
    rw [Int.natCast_mul] at h2; omega
  have hrun := run_make (P := Tryd.prog) w T e i0 z hu hi z1 .i64 .i64 n n (by omega) (by omega) hb (by omega)
  unfold Oper.wp
  simp [execOp, ho, hl, hc, hrun, Result.andThen]
  refine hK' _ _ (h _ ⟨?_⟩ ((Below.refl _ _).alloc (Nat.le_refl _) _))
  rw [Go.heap_alloc_new, z2, ← hcs]
theorem infoIntV : (Tryd.prog.info? 3).map (fun i => (i.zero, i.size, i.bytes)) = some (some (.int .i64 0), 1, 8) := by kernel_rfl
theorem infoShareV : (Tryd.prog.info? 54).map (fun i => (i.zero, i.size, i.bytes)) = some (some (.agg #[.int .u64 0, .int .u64 0]), 2, 16) := by kernel_rfl
theorem made_row (n : Nat) : madeCells (Value.int .i64 0).cells (n * 1) = (row (fun _ => 0) n).toArray := by
  show (Array.range (n * 1)).map _ = _
  refine Array.ext_getElem? fun i => ?_
  by_cases h : i < n
  · simp [row, h, Nat.mod_one, Value.cells]
  · simp [row, h]
theorem made_shr (n : Nat) : madeCells (Value.agg #[.int .u64 0, .int .u64 0]).cells (n * 2) = (shr (fun _ => 0) (fun _ => 0) n).toArray := by
  show (Array.range (n * 2)).map _ = _
  refine Array.ext_getElem? fun i => ?_
  have e : ∀ i, (Value.agg #[.int .u64 0, .int .u64 0]).cells[i % (Value.agg #[.int .u64 0, .int .u64 0]).cells.size]! = .int .u64 0 := by
    intro i
    show (#[Value.int .u64 0, .int .u64 0] : Array Value)[i % 2]! = _
    rcases (show i % 2 = 0 ∨ i % 2 = 1 by omega) with h | h <;> rw [h] <;> rfl
  by_cases h : i < n * 2
  · simp [shr, h, e]
  · simp [shr, h]
theorem isnanV_ok (n : Int) (w : World) : Calls Tryd.prog 53 #[.int .u64 n] w fun e w' => e = .returned (.bool false) ∧ w' = w := by
  have h : (n != n) = false := by simp
  go_enter Tryd.func53, Tryd.ntmps53
  go_wp2_with fail
  go_ret
  exact ⟨rfl, rfl⟩
def ordU (a b : Nat) : Int := if a < b then -1 else if b < a then 1 else 0
theorem ordU_neg (a b : Nat) : ordU a b < 0 ↔ a < b := by
  unfold ordU
  by_cases h1 : a < b
  · rw [if_pos h1]; constructor <;> intro <;> first | exact h1 | decide
  · rw [if_neg h1]
    by_cases h2 : b < a
    · rw [if_pos h2]; omega
    · rw [if_neg h2]; omega
theorem cmpU_lt (a b : Nat) (w : World) (h : a < b) : Calls Tryd.prog 45 #[.int .u64 (a : Int), .int .u64 (b : Int)] w fun e w' => e = .returned (.int .i64 (ordU a b)) ∧ w' = w := by
  have e0 : ordU a b = -1 := by unfold ordU; rw [if_pos h]
  rw [e0]
  clear e0
  have d1 : (a : Int) < (b : Int) := by omega
  clear h
  go_enter Tryd.func45, Tryd.ntmps45
  go_wp2_with fail
  refine (isnanV_ok _ _).mono ?_
  rintro e w1 ⟨rfl, hq⟩
  obtain rfl := hq.symm
  go_wp2_with fail
  refine (isnanV_ok _ _).mono ?_
  rintro e w1 ⟨rfl, hq⟩
  obtain rfl := hq.symm
  go_wp2_with fail
  go_ret
  exact ⟨rfl, rfl⟩
theorem cmpU_gt (a b : Nat) (w : World) (h : b < a) : Calls Tryd.prog 45 #[.int .u64 (a : Int), .int .u64 (b : Int)] w fun e w' => e = .returned (.int .i64 (ordU a b)) ∧ w' = w := by
  have e0 : ordU a b = 1 := by unfold ordU; rw [if_neg (by omega), if_pos h]
  rw [e0]
  clear e0
  have d1 : (b : Int) < (a : Int) := by omega
  clear h
  go_enter Tryd.func45, Tryd.ntmps45
  go_wp2_with fail
  refine (isnanV_ok _ _).mono ?_
  rintro e w1 ⟨rfl, hq⟩
  obtain rfl := hq.symm
  go_wp2_with fail
  refine (isnanV_ok _ _).mono ?_
  rintro e w1 ⟨rfl, hq⟩
  obtain rfl := hq.symm
  go_wp2_with fail
  go_ret
  exact ⟨rfl, rfl⟩
theorem cmpU_eq (a b : Nat) (w : World) (h : a = b) : Calls Tryd.prog 45 #[.int .u64 (a : Int), .int .u64 (b : Int)] w fun e w' => e = .returned (.int .i64 (ordU a b)) ∧ w' = w := by
  have e0 : ordU a b = 0 := by unfold ordU; rw [if_neg (by omega), if_neg (by omega)]
  rw [e0]
  clear e0
  subst h
  go_enter Tryd.func45, Tryd.ntmps45
  go_wp2_with fail
  refine (isnanV_ok _ _).mono ?_
  rintro e w1 ⟨rfl, hq⟩
  obtain rfl := hq.symm
  go_wp2_with fail
  refine (isnanV_ok _ _).mono ?_
  rintro e w1 ⟨rfl, hq⟩
  obtain rfl := hq.symm
  go_wp2_with fail
  go_ret
  exact ⟨rfl, rfl⟩
theorem cmpU_ok (a b : Nat) (w : World) : Calls Tryd.prog 45 #[.int .u64 (a : Int), .int .u64 (b : Int)] w fun e w' => e = .returned (.int .i64 (ordU a b)) ∧ w' = w := by
  rcases Nat.lt_trichotomy a b with h | h | h
  · exact cmpU_lt a b w h
  · exact cmpU_eq a b w h
  · exact cmpU_gt a b w h
/-- what the comparison reads -/
def Cw (bx L n : Nat) (U R : Nat → Nat) (w : World) : Prop := VA w bx [.slice (some ⟨L, 0, none⟩) n n] 51 ∧ VA w L (shr U R n) 54
set_option maxHeartbeats 1000000 in
theorem clo_ok (bx L n : Nat) (U R : Nat → Nat) (x y : Nat) (w : World) (hx : x < n) (hy : y < n) (hn : n ≤ 1000000) (C : Cw bx L n U R w) : Calls Tryd.prog 44 #[.int .i64 (x : Int), .int .i64 (y : Int), .pointer (some ⟨bx, 0, none⟩)] w fun e w' => (∃ c : Int, e = .returned (.int .i64 c) ∧ (c < 0 ↔ R y < R x)) ∧ Below w.heap.size w w' := by
  obtain ⟨VB, VL⟩ := C
  go_enter Tryd.func44, Tryd.ntmps44
  go_upto_region 1 with fail
  refine wp_region_noPanic ?_
  refine wp_region_held_drew (S := fun w' => VA w' bx [.slice (some ⟨L, 0, none⟩) n n] 51 ∧ VA w' L (shr U R n) 54 ∧ Below w.heap.size w w') (by kernel_rfl) ⟨VB.drew, VL.drew, (Below.refl _ _).drew⟩ (fun hHeld => ?_)
  refine takeD 0 6 (.slice (some ⟨L, 0, none⟩) n n) (by exact rfl) rfl (by kernel_rfl) (by kernel_rfl) (by kernel_rfl) (fun _ _ _ h => h) (Or.inl ⟨by rfl, ?_⟩) (by assumption) ?_
  · intro wq hS
    have h0 := hS.1.cell 0 (v := .slice (some ⟨L, 0, none⟩) n n) rfl
    go_simp
  try simp only [Act.put, List.setIfInBounds_toArray, List.set_cons_zero, List.set_cons_succ]
  refine takeD 1 7 (.int .i64 (y : Int)) (by exact rfl) rfl (by kernel_rfl) (by kernel_rfl) (by kernel_rfl) (fun _ _ _ h => h) (Or.inl ⟨by rfl, ?_⟩) (by assumption) ?_
  · intro wq hS
    go_simp
  try simp only [Act.put, List.setIfInBounds_toArray, List.set_cons_zero, List.set_cons_succ]
  refine takeD 2 8 (.pointer (some ⟨L, y * 2, none⟩)) (by exact rfl) rfl (by kernel_rfl) (by kernel_rfl) (by kernel_rfl) (fun _ _ _ h => h) (Or.inl ⟨by rfl, ?_⟩) (by assumption) ?_
  · intro wq hS
    go_simp
  try simp only [Act.put, List.setIfInBounds_toArray, List.set_cons_zero, List.set_cons_succ]
  refine takeD 3 9 (.pointer (some ⟨L, y * 2 + 1, none⟩)) (by exact rfl) rfl (by kernel_rfl) (by kernel_rfl) (by kernel_rfl) (fun _ _ _ h => h) (Or.inl ⟨by rfl, ?_⟩) (by assumption) ?_
  · intro wq hS
    go_simp
  try simp only [Act.put, List.setIfInBounds_toArray, List.set_cons_zero, List.set_cons_succ]
  refine takeD 4 10 (.int .u64 (R y : Int)) (by exact rfl) rfl (by kernel_rfl) (by kernel_rfl) (by kernel_rfl) (fun _ _ _ h => h) (Or.inl ⟨by rfl, ?_⟩) (by assumption) ?_
  · intro wq hS
    have h0 := hS.2.1.cell (y * 2 + 1) (shr_r U R (n := n) (by omega))
    go_simp
  try simp only [Act.put, List.setIfInBounds_toArray, List.set_cons_zero, List.set_cons_succ]
  refine takeD 5 11 (.slice (some ⟨L, 0, none⟩) n n) (by exact rfl) rfl (by kernel_rfl) (by kernel_rfl) (by kernel_rfl) (fun _ _ _ h => h) (Or.inl ⟨by rfl, ?_⟩) (by assumption) ?_
  · intro wq hS
    have h0 := hS.1.cell 0 (v := .slice (some ⟨L, 0, none⟩) n n) rfl
    go_simp
  try simp only [Act.put, List.setIfInBounds_toArray, List.set_cons_zero, List.set_cons_succ]
  refine takeD 6 12 (.int .i64 (x : Int)) (by exact rfl) rfl (by kernel_rfl) (by kernel_rfl) (by kernel_rfl) (fun _ _ _ h => h) (Or.inl ⟨by rfl, ?_⟩) (by assumption) ?_
  · intro wq hS
    go_simp
  try simp only [Act.put, List.setIfInBounds_toArray, List.set_cons_zero, List.set_cons_succ]
  refine takeD 7 13 (.pointer (some ⟨L, x * 2, none⟩)) (by exact rfl) rfl (by kernel_rfl) (by kernel_rfl) (by kernel_rfl) (fun _ _ _ h => h) (Or.inl ⟨by rfl, ?_⟩) (by assumption) ?_
  · intro wq hS
    go_simp
  try simp only [Act.put, List.setIfInBounds_toArray, List.set_cons_zero, List.set_cons_succ]
  refine takeD 8 14 (.pointer (some ⟨L, x * 2 + 1, none⟩)) (by exact rfl) rfl (by kernel_rfl) (by kernel_rfl) (by kernel_rfl) (fun _ _ _ h => h) (Or.inl ⟨by rfl, ?_⟩) (by assumption) ?_
  · intro wq hS
    go_simp
  try simp only [Act.put, List.setIfInBounds_toArray, List.set_cons_zero, List.set_cons_succ]
  refine takeD 9 15 (.int .u64 (R x : Int)) (by exact rfl) rfl (by kernel_rfl) (by kernel_rfl) (by kernel_rfl) (fun _ _ _ h => h) (Or.inl ⟨by rfl, ?_⟩) (by assumption) ?_
  · intro wq hS
    have h0 := hS.2.1.cell (x * 2 + 1) (shr_r U R (n := n) (by omega))
    go_simp
  try simp only [Act.put, List.setIfInBounds_toArray, List.set_cons_zero, List.set_cons_succ]
  refine wpAnyH_ready (rs := [10]) (by kernel_rfl) (by simp) ?_
  refine AllReadyH.cons (by exact rfl) (fun K hK => ?_) AllReadyH.nil
  go_simp
  refine (cmpU_ok _ _ _).mono ?_
  rintro e w1 ⟨rfl, hq⟩
  obtain rfl := hq.symm
  go_wp2_with fail
  refine hK.out _ _ hHeld (fun hHeld => ?_)
  try simp only [Act.put, List.setIfInBounds_toArray, List.set_cons_zero, List.set_cons_succ]
  clear hK K
  refine takeD 11 5 (.int .i64 (ordU (R y) (R x))) (by exact rfl) rfl (by kernel_rfl) (by kernel_rfl) (by kernel_rfl) (fun _ _ _ h => h) (Or.inl ⟨by rfl, ?_⟩) (by assumption) ?_
  · intro wq hS
    go_simp
  try simp only [Act.put, List.setIfInBounds_toArray, List.set_cons_zero, List.set_cons_succ]
  refine wpAnyH_done (by kernel_rfl) ?_ _
  refine NoPanic.normal ?_
  obtain ⟨c, hc⟩ : ∃ c, ordU (R y) (R x) = c := ⟨_, rfl⟩
  rw [hc]
  have HC := (show Hid _ from hc)
  clear hc
  go_wp2_with fail
  exact bodyPost_ret (v := .int .i64 c) (by simp [results, Tryd.results44, go_sem]) rfl ⟨⟨c, rfl, by rw [← HC.out]; exact ordU_neg _ _⟩, hHeld.2.2⟩
theorem cmpr_ok (q bx L n : Nat) (U R : Nat → Nat) (hn : n ≤ 1000000) (h1 : bx ≠ q) (h2 : L ≠ q) : Cmpr q n bx R (Cw bx L n U R) :=
  ⟨fun w w' h k => ⟨h.1.qx k h1, h.2.qx k h2⟩, fun x y w hx hy C => clo_ok bx L n U R x y w hx hy hn C⟩
theorem hit_next {R g : Nat → Nat} {n x : Nat} (U : Nat → Nat) (S : Srt R g 0 n) (hx : x < n) (j : Nat) : upn (fun j => U j + (hit g x j).toNat) (g x) (U (g x) + 1) j = U j + (hit g (x + 1) j).toNat := by
  simp only [upn, hit]
  by_cases e : j = g x
  · subst e; rw [if_pos rfl]; simp
  · rw [if_neg e]
    have : (g x == j) = false := by simp; exact fun h => e h.symm
    rw [this, Bool.or_false]
theorem not_hit {R g : Nat → Nat} {n x : Nat} (S : Srt R g 0 n) (hx : x < n) : hit g x (g x) = false := by
  rw [← Bool.not_eq_true]
  intro h
  obtain ⟨y, h1, h2⟩ := (hit_iff _ _ _).1 h
  have := srt_inj S (by omega) hx h2; omega
set_option maxHeartbeats 4000000 in
set_option maxRecDepth 100000 in
theorem handOut_ok (L n left : Nat) (U R : Nat → Nat) (w : World) (VL : VA w L (shr U R n) 54) (hn : n ≤ 1000000) (hl : left ≤ n) (hU : ∀ i, i < n → U i ≤ 100000000000000) : Calls Tryd.prog 33 #[.int .u64 (left : Int), .slice (some ⟨L, 0, none⟩) n n] w fun e w' => e = .returned (.tuple #[]) ∧ ∃ g, Pm (fun x => x) g 0 n ∧ Srt R g 0 n ∧ VA w' L (shr (fun j => U j + (hit g left j).toNat) R n) 54 ∧ Qx L w w' := by
  have VB_0 := (show Hid _ from va_new w [.slice (some ⟨L, 0, none⟩) n n] 51)
  have VL_0 := (show Hid _ from VL.alloc (.cells ([.slice (some ⟨L, 0, none⟩) n n] : List Value).toArray 51))
  have BB_0 := (show Hid _ from (Below.refl w.heap.size w).alloc (Nat.le_refl _) (.cells ([.slice (some ⟨L, 0, none⟩) n n] : List Value).toArray 51))
  have HL : Hid (L < w.heap.size) := VL.lt
  have HUB := (show Hid _ from hU)
  clear VL hU
  go_enter Tryd.func33, Tryd.ntmps33
  obtain ⟨q, hq⟩ : ∃ q, q = w.heap.size + 1 := ⟨_, rfl⟩
  have eS : (w.alloc (.cells ([.slice (some ⟨L, 0, none⟩) n n] : List Value).toArray 51)).heap.size = q := by rw [hq]; simp
  have hn1 : (n : Int) ≤ 1000000 := by omega
  have hl1 : (left : Int) ≤ (n : Int) := by omega
  go_upto_region 2 with (refine mkV rfl 93 3 _ _ rfl Tryd.underlying93 (.int .i64 0) 1 8 n infoIntV (by decide) hn (row (fun _ => 0) n) (made_row n) (by rfl) (by rfl) ?_; intro w1 v1 b1; have VQ_1 := (show Hid _ from v1); have VB_1 := (show Hid _ from VB_0.out.step b1); have VL_1 := (show Hid _ from VL_0.out.step b1); have BB_1 := (show Hid _ from BB_0.out.trans (b1.mono BB_0.out.size)); clear v1 b1 VB_0 VL_0 BB_0)
  have VQ_1 : Hid (VA w1 q (row (fun _ => 0) n) 3) := by rw [← eS]; exact VQ_1
  have HQE := (show Hid _ from hq)
  rw [← hq]
  clear hq eS
  go_wp2_with fail
  go_loopw [5, 13] (fun s5 s13 wr => ∃ i : Nat, i ≤ n ∧ s13 = .int .i64 (i : Int) ∧ Hid (VA wr q (row (fun x => if x < i then x else 0) n) 3) ∧ Hid (Qx q w1 wr)) (fun _ s13 _ => n - (intOf s13).toNat)
  case atStart => exact ⟨0, by omega, by go_num, by rw [show (fun x => if x < 0 then x else 0) = (fun _ : Nat => (0 : Nat)) from funext fun x => by simp]; exact VQ_1, Qx.refl _ _⟩
  case round =>
    rename_i wr
    obtain ⟨i, hi, rfl, HV, HU⟩ := hrel
    clear VQ_1
    by_cases hin : (n : Int) ≤ (i : Int)
    · go_wp2_with fail
      have hin' : i = n := by omega
      have HV2 : Hid (VA wr q (row (fun x => x) n) 3) := by
        have := HV.out
        rw [row_congr (g := fun x => x) (fun j hj => by rw [if_pos (by omega)])] at this
        exact this
      have HC2 : Hid (Cw w.heap.size L n U R wr) := ⟨VB_1.out.qx HU.out (by have := HQE.out; omega), VL_1.out.qx HU.out (by have := HL.out; have := HQE.out; omega)⟩
      have BB_2 := (show Hid _ from HU.out.bel BB_1.out (by have := HQE.out; omega) BB_1.out.size)
      clear HV HU VB_1 VL_1 BB_1 hin' hin
      refine (sortst_ok q n w.heap.size R (fun x => x) _ (cmpr_ok q w.heap.size L n U R hn (by have := HQE.out; omega) (by have := HL.out; have := HQE.out; omega)) _ HV2.out HC2.out hn (fun x h => h) (fun x y h _ => h)).mono ?_
      rintro e w3 ⟨rfl, g, v3, p3, s3, u3⟩
      have VQ_3 := (show Hid _ from v3)
      have HP : Hid (Pm (fun x => x) g 0 n) := p3
      have HS : Hid (Srt R g 0 n) := s3
      have HG : Hid (∀ x, x < n → g x < n) := fun x hx => p3.all (P := fun v => v < n) (fun x _ h => h) x (Nat.zero_le _) hx
      have VB_3 := (show Hid _ from HC2.out.1.qx u3 (by have := HQE.out; omega))
      have VL_3 := (show Hid _ from HC2.out.2.qx u3 (by have := HL.out; have := HQE.out; omega))
      have BB_3 := (show Hid _ from u3.bel BB_2.out (by have := HQE.out; omega) BB_2.out.size)
      clear v3 p3 s3 u3 HV2 HC2 BB_2
      go_wp2_with fail
      go_loopw [7, 28] (fun s7 s28 wr => ∃ x : Nat, x ≤ left ∧ s28 = .int .i64 (x : Int) ∧ Hid (VA wr L (shr (fun j => U j + (hit g x j).toNat) R n) 54) ∧ Hid (Qx L w3 wr)) (fun _ s28 _ => left - (intOf s28).toNat)
      case atStart => exact ⟨0, by omega, by go_num, by simp only [hit]; exact VL_3.out, Qx.refl _ _⟩
      case round =>
        rename_i wr2
        obtain ⟨x, hx, rfl, HV, HU⟩ := hrel
        clear VL_3
        by_cases hxl : (left : Int) ≤ (x : Int)
        · go_wp2_with fail
          refine bodyPost_end (v := .tuple #[]) (by simp [results, Tryd.results33, go_sem]) rfl ⟨rfl, g, HP.out, HS.out, ?_, ?_⟩
          · have := HV.out; rwa [show x = left by omega] at this
          · exact (Qx.of_bel BB_3.out).trans HU.out
        · have hxn : x < n := by omega
          have hgx : g x < n := HG.out x hxn
          have hgx1 : (g x : Int) < (n : Int) := by omega
          have b0 := (VB_3.out.qx HU.out (by have := HL.out; omega)).cell 0 (v := .slice (some ⟨L, 0, none⟩) n n) rfl
          have q0 := (VQ_3.out.qx HU.out (by have := HL.out; have := HQE.out; omega)).cell x (row_get g hxn)
          have l0 := HV.out.cell (g x * 2) (shr_u _ R hgx)
          have f0 := HV.out.free (g x * 2)
          have hu0 := HUB.out _ hgx
          have e1 : U (g x) + (hit g x (g x)).toNat = U (g x) := by rw [not_hit HS.out hxn]; rfl
          simp only [e1] at l0
          clear e1
          have hu1 : (U (g x) : Int) ≤ 100000000000000 := by omega
          have hw : IntKind.u64.wrap ((U (g x) : Int) + 1) = ((U (g x) + 1 : Nat) : Int) := by rw [IntKind.wrap_u64]; omega
          go_wp2_with fail
          refine ⟨⟨x + 1, by omega, by go_num, ?_, ?_⟩, by simp [intOf]; omega⟩
          · have h := HV.out.set (g x * 2) (.int .u64 ((U (g x) + 1 : Nat) : Int))
            rw [shr_set_u _ R hgx, shr_congr (R' := R) (fun j hj => hit_next U HS.out hxn j) (fun _ _ => rfl)] at h
            exact h
          · exact HU.out.trans (Qx.of_upd (upd_set _ _ _ _))
    · have hi1 : (i : Int) < (n : Int) := by omega
      have hi2 : i < n := by omega
      have c0 := HV.out.cell i (row_get _ hi2)
      have f0 := HV.out.free i
      go_wp2_with fail
      refine ⟨⟨i + 1, by omega, by go_num, ?_, ?_⟩, by simp [intOf]; omega⟩
      · have h := HV.out.set i (.int .i64 (i : Int))
        rw [row_set _ hi2, row_congr (g := fun x => if x < i + 1 then x else 0) (fun j hj => by
          simp only [upn]
          by_cases e : j = i
          · rw [if_pos e, if_pos (by omega), e]
          · rw [if_neg e]
            by_cases e2 : j < i
            · rw [if_pos e2, if_pos (by omega)]
            · rw [if_neg e2, if_neg (by omega)])] at h
        exact h
      · exact HU.out.trans (Qx.of_upd (upd_set _ _ _ _))
end Go.Proofs.YtbgglghapjfdeaaDoor
