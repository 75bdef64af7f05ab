/- Slices of bytes: what a slice holds; rows that a call makes itself (make, copy, append). -/
import Derived.Test.YtkmdegmpffgplaaGreatDoorLad
import Derived.Laws.AppendOwn
import Derived.Laws.AppendOwnNone
import Derived.Laws.CopyOwn
import Derived.OwnWalk
import Derived.LoopTactic
import Derived.Below
import Derived.Handy
namespace Go.Proofs.YtkmdegmpffgplaaGreatDoor.pk
open Go.RowKit
set_option linter.unusedVariables false

theorem info8 : (Tryz.prog.info? 5).map (fun i => (i.zero, i.size, i.bytes)) = some (some (.int .u8 0), 1, 1) := by kernel_rfl
theorem info8_parts : ∃ i, Tryz.prog.info? 5 = some i ∧ i.zero = some (.int .u8 0) ∧ i.size = 1 ∧ i.bytes = 1 := by
  obtain ⟨i, hi, hz⟩ := Option.map_eq_some_iff.1 info8
  simp only [Prod.mk.injEq] at hz
  exact ⟨i, hi, hz.1, hz.2.1, hz.2.2⟩
/-- byte number k -/
def bt (bs : List Nat) (k : Nat) : Int := ((bs.getD k 0 : Nat) : Int)
/-- bytes as cells -/
def cl (bs : List Nat) : List Value := bs.map fun (d : Nat) => Value.int .u8 (d : Int)
theorem cl_len (bs : List Nat) : (cl bs).length = bs.length := by simp [cl]
theorem cl_app (xs bs : List Nat) : cl xs ++ cl bs = cl (xs ++ bs) := by simp [cl]
theorem cl_get (bs : List Nat) (k : Nat) (h : k < bs.length) : (cl bs)[k]? = some (.int .u8 (bt bs k)) := by simp [cl, bt, h]
theorem cl_one {bs : List Nat} {u : Value} (h : u ∈ cl bs) : u.oneCell' = true := by
  obtain ⟨x, _, rfl⟩ := List.mem_map.1 h; rfl
/-- are these bytes? -/
def By (bs : List Nat) : Prop := ∀ x ∈ bs, x < 256
theorem By.app {xs bs : List Nat} (h : By xs) (k : By bs) : By (xs ++ bs) := fun x hx => by
  rcases List.mem_append.1 hx with hx | hx
  · exact h x hx
  · exact k x hx
theorem By.nil : By [] := fun x hx => by simp at hx
theorem By.one {d : Nat} (h : d < 256) : By [d] := fun x hx => by simp at hx; omega
theorem By.take {bs : List Nat} (h : By bs) (k : Nat) : By (bs.take k) := fun x hx => h x (List.mem_of_mem_take hx)
theorem By.drop {bs : List Nat} (h : By bs) (k : Nat) : By (bs.drop k) := fun x hx => h x (List.mem_of_mem_drop hx)
theorem bt_bd {bs : List Nat} (h : By bs) (k : Nat) : 0 ≤ bt bs k ∧ bt bs k ≤ 255 := by
  unfold bt
  by_cases hk : k < bs.length
  · have := h (bs.getD k 0) (by simp [hk])
    omega
  · simp [List.getD, List.getElem?_eq_none (Nat.le_of_not_lt hk)]
/-- where a slice's bytes lie -/
def Lies (w : World) (a : Option Addr) (bs : List Nat) : Prop := 0 < bs.length → ∃ b off, a = some ⟨b, off, none⟩ ∧ b < w.heap.size ∧ ∀ k, k < bs.length → w.cell? ⟨b, off + k, none⟩ = some (.int .u8 (bt bs k))
/-- The slice v holds the bytes bs. -/
structure Bs (w : World) (v : Value) (bs : List Nat) : Prop where
  byte : By bs
  form : ∃ a c, v = .slice a bs.length c ∧ bs.length ≤ c ∧ c ≤ 9223372036854775807 ∧ (a = none → c = 0) ∧ Lies w a bs
theorem Lies.step {w w' : World} {a : Option Addr} {bs : List Nat} (h : Lies w a bs) (k : Below w.heap.size w w') : Lies w' a bs := fun h0 => by
  obtain ⟨b, off, e, hb, hx⟩ := h h0
  exact ⟨b, off, e, Nat.lt_of_lt_of_le hb k.size, fun j hj => (k.cell (p := ⟨b, off + j, none⟩) hb).trans (hx j hj)⟩
theorem Bs.step {w w' : World} {v : Value} {bs : List Nat} (h : Bs w v bs) (k : Below w.heap.size w w') : Bs w' v bs := by
  obtain ⟨hb, a, c, e, h1, h2, h3, h4⟩ := h
  exact ⟨hb, a, c, e, h1, h2, h3, h4.step k⟩
theorem bs_nil (w : World) : Bs w (.slice none 0 0) [] := ⟨By.nil, none, 0, rfl, by simp, by omega, fun _ => rfl, fun h => by simp at h⟩
theorem bs_empty (w : World) (a : Addr) (c : Nat) (h : c ≤ 9223372036854775807) : Bs w (.slice (some a) 0 c) [] := ⟨By.nil, some a, c, rfl, by simp, h, fun h => (by cases h), fun h => by simp at h⟩
theorem bt_take (bs : List Nat) (n k : Nat) (h : k < n) : bt (bs.take n) k = bt bs k := by unfold bt; simp [h]
theorem bt_drop (bs : List Nat) (n k : Nat) : bt (bs.drop n) k = bt bs (n + k) := by unfold bt; simp [List.getD]
theorem Lies.take {w : World} {a : Option Addr} {bs : List Nat} (h : Lies w a bs) (k : Nat) (hk : k ≤ bs.length) : Lies w a (bs.take k) := fun h0 => by
  have hl : (bs.take k).length = k := by rw [List.length_take]; omega
  obtain ⟨b, off, e, hb, hx⟩ := h (by omega)
  exact ⟨b, off, e, hb, fun j hj => by rw [bt_take bs k j (by omega)]; exact hx j (by omega)⟩
theorem Bs.cut {w : World} {a : Option Addr} {n c : Nat} {bs : List Nat} (h : Bs w (.slice a n c) bs) (k : Nat) (hk : k ≤ bs.length) : Bs w (.slice a k c) (bs.take k) := by
  obtain ⟨hb, a', c', e, h1, h2, h3, h4⟩ := h
  cases e
  have hl : (bs.take k).length = k := by rw [List.length_take]; omega
  exact ⟨hb.take k, a, c, by rw [hl], by omega, h2, h3, h4.take k hk⟩
theorem Bs.len {w : World} {a : Option Addr} {n c : Nat} {bs : List Nat} (h : Bs w (.slice a n c) bs) : n = bs.length ∧ n ≤ c ∧ c ≤ 9223372036854775807 := by
  obtain ⟨hb, a', c', e, h1, h2, h3, h4⟩ := h
  cases e
  exact ⟨rfl, h1, h2⟩
/-- The row v of the call's own holds the bytes cs. -/
structure OwnB (w : World) (B : Nat) (v : Value) (cs : List Nat) : Prop where
  byte : By cs
  own : w.ownsRow B 5 1 v cs.length (cl cs)
theorem own_nil (w : World) (B : Nat) : OwnB w B (.slice none 0 0) [] := ⟨By.nil, World.ownsRow_nil _ _ _ _⟩
theorem OwnB.bs {w : World} {B : Nat} {v : Value} {cs : List Nat} (h : OwnB w B v cs) : Bs w v cs := by
  obtain ⟨hl, h2⟩ := h.own
  refine ⟨h.byte, ?_⟩
  rcases h2 with ⟨rfl, h0⟩ | ⟨g, cap, cur, rfl, hb, hg, hcap, hcm, hcs, htk⟩
  · exact ⟨none, 0, by rw [h0], by omega, by omega, fun _ => rfl, fun h => by omega⟩
  · refine ⟨some ⟨g, 0, none⟩, cap, rfl, hcap, by unfold maxLen at hcm; omega, fun h => (by cases h), fun h0 => ⟨g, 0, rfl, ?_, fun k hk => ?_⟩⟩
    · rcases Nat.lt_or_ge g w.heap.size with hlt | hge
      · exact hlt
      · rw [Array.getElem?_eq_none hge] at hg; cases hg
    · have ho : w.ownsRow B 5 1 (.slice (some ⟨g, 0, none⟩) cs.length cap) cs.length (cl cs) := ⟨hl, Or.inr ⟨g, cap, cur, rfl, hb, hg, hcap, hcm, hcs, htk⟩⟩
      rw [Nat.zero_add, ho.cellAt k (by omega), cl_get cs k hk]
theorem OwnB.block {w : World} {B : Nat} {v : Value} {cs : List Nat} (h : OwnB w B v cs) : ∀ k, v.ownBlock = some k → B ≤ k := by
  obtain ⟨hl, h2⟩ := h.own
  rcases h2 with ⟨rfl, h0⟩ | ⟨g, cap, cur, rfl, hb, _⟩
  · intro k hk; simp [Value.ownBlock] at hk
  · intro k hk; simp [Value.ownBlock] at hk; omega
theorem OwnB.alloc {w : World} {B : Nat} {v : Value} {cs : List Nat} (h : OwnB w B v cs) (o : Obj) : OwnB (w.alloc o) B v cs := ⟨h.byte, h.own.alloc o⟩
theorem OwnB.lower {w : World} {B B' : Nat} {v : Value} {cs : List Nat} (h : OwnB w B v cs) (hB : B' ≤ B) : OwnB w B' v cs := by
  refine ⟨h.byte, h.own.1, ?_⟩
  rcases h.own.2 with h2 | ⟨g, cap, cur, e, hb, r⟩
  · exact Or.inl h2
  · exact Or.inr ⟨g, cap, cur, e, by omega, r⟩
theorem own_made (w : World) : OwnB (w.alloc (.cells #[] 5)) w.heap.size (.slice (some ⟨w.heap.size, 0, none⟩) 0 0) [] :=
  ⟨By.nil, World.ownsRow_made w #[] 0 (Nat.le_refl _) (by unfold maxLen; omega) rfl⟩
/-- append(s, x...) -/
theorem appB {w : World} {ops : Array Oper} {rest : List Oper} {o : Oper} {a : Act} {Q : Exit → Act → World → Prop} (hgd : o.guard = none) (s x : Operand)
    (ho : o.op = .call { callee := .builtin .append, args := #[s, x], argTypes := #[22, 22] })
    (B : Nat) (cs bs : List Nat) (v u : Value) (hs : a.eval s = v) (hx : a.eval x = u)
    (hown : OwnB w B v cs) (hu : Bs w u bs) (hB : B ≤ w.heap.size) (hl : cs.length + bs.length ≤ 140737488355328)
    (h : ∀ v' w', OwnB w' B v' (cs ++ bs) → Below B w w' → wpList Tryz.prog ops Q rest (a.put o.dst v') w') :
    wpList Tryz.prog ops Q (o :: rest) a w := by
  obtain ⟨i0, hi, hz0, hz1, hz2⟩ := info8_parts
  obtain ⟨hby, ad, c, rfl, h1, h2, h3, h4⟩ := hu
  have hfin : ∀ v' w', w'.ownsRow B 5 1 v' (cs.length + bs.length) (cl cs ++ cl bs) → w.grownBy w' v.ownBlock → wpList Tryz.prog ops Q rest (a.put o.dst v') w' := fun v' w' g1 g2 =>
    h v' w' ⟨hown.byte.app hby, by rw [List.length_append, ← cl_app]; exact g1⟩ ((Below.refl _ _).grown g2 hB hown.block)
  cases ad with
  | none =>
    obtain rfl := h3 rfl
    obtain rfl : bs = [] := List.eq_nil_of_length_eq_zero (by omega)
    refine wpList_append_own_none hgd s x 22 ho B 5 i0 1 Tryz.underlying22 hi v cs.length (cl cs) hs hown.own hx ?_
    exact h v w (by simpa using hown) (Below.refl _ _)
  | some ad =>
    refine wpList_append_own _ hgd s x 22 ho B 5 i0 (.int .u8 0) 1 1 Tryz.underlying22 hi hz0 hz1 hz2 rfl (by decide) v cs.length (cl cs) hs hown.own ad bs.length c (cl bs) hx (by simp [cl_len]) ?_ (fun u hu => cl_one hu) (by unfold maxLen; omega) (by omega) hB (fun v' w' g1 g2 _ => hfin v' w' g1 g2)
    intro j u hj
    have hj' : j < bs.length := by
      have := (List.getElem?_eq_some_iff.1 hj).1
      rwa [cl_len] at this
    obtain ⟨b, off, e, hb, hcell⟩ := h4 (by omega)
    cases e
    rw [Go.WideShapes.add_plain, hcell j hj', ← cl_get bs j hj', hj]
/-- append(s, d) -/
theorem appB1 {w : World} {ops : Array Oper} {rest : List Oper} {o : Oper} {a : Act} {Q : Exit → Act → World → Prop} {T : TypeId} (hgd : o.guard = none) (s x : Operand)
    (ho : o.op = .call { callee := .builtin .append, args := #[s, x], argTypes := #[22, 22] })
    (B : Nat) (cs : List Nat) (v : Value) (d : Int) (D : Nat) (hs : a.eval s = v) (hx : a.eval x = .slice (some ⟨w.heap.size, 0, none⟩) 1 1) (hd : d = D) (hD : D < 256)
    (hown : OwnB w B v cs) (hB : B ≤ w.heap.size) (hl : cs.length + 1 ≤ 140737488355328)
    (h : ∀ v' w', OwnB w' B v' (cs ++ [D]) → Below B w w' → wpList Tryz.prog ops Q rest (a.put o.dst v') w') :
    wpList Tryz.prog ops Q (o :: rest) a (w.alloc (.cells #[.int .u8 d] T)) := by
  subst hd
  refine appB hgd s x ho B cs [D] v _ hs hx (hown.alloc _) ?_ (by simp; omega) (by simpa using hl) (fun v' w' g1 g2 => h v' w' g1 (((Below.refl _ _).alloc hB _).trans g2))
  refine ⟨By.one hD, some ⟨w.heap.size, 0, none⟩, 1, rfl, by simp, by omega, fun h => (by cases h), fun _ => ⟨w.heap.size, 0, rfl, by simp, fun k hk => ?_⟩⟩
  have : k = 0 := by simp at hk; omega
  subst this
  simp [bt]
/-- out := make([]byte, n, n + 10) -/
theorem mkB {w : World} {ops : Array Oper} {rest : List Oper} {o : Oper} {a : Act} {Q : Exit → Act → World → Prop} (hgd : o.guard = none) (l c : Operand) (ho : o.op = Op.makeSlice 22 l c)
    (n m : Nat) (L C : Int) (hl : a.eval l = .int .i64 L) (hc : a.eval c = .int .i64 C) (hL : L = n) (hC : C = m) (hnm : n ≤ m) (hn : m ≤ 140737488355328)
    (h : ∀ w', Hid (w'.heap[w.heap.size]? = some (.cells (cl (List.replicate m 0)).toArray 5 (0, 0))) → Below w.heap.size w w' → w'.heap.size = w.heap.size + 1 → wpList Tryz.prog ops Q rest (a.put o.dst (.slice (some ⟨w.heap.size, 0, none⟩) n m)) w') :
    wpList Tryz.prog ops Q (o :: rest) a w := by
  obtain ⟨i0, hi, hz0, hz1, hz2⟩ := info8_parts
  subst hL
  subst hC
  refine wpList_plain hgd fun K hK' => ?_
  have hrun := run_make (P := Tryz.prog) w 22 5 i0 (.int .u8 0) Tryz.underlying22 hi hz0 .i64 .i64 (n : Int) (m : Int) (by omega) (by omega) (by rw [hz2]; omega) (by omega)
  unfold Oper.wp
  simp [execOp, ho, hl, hc, hrun, Result.andThen]
  refine hK' _ _ (h _ ?_ ((Below.refl _ _).alloc (Nat.le_refl _) _) (by simp))
  have e : (madeCells (Value.int .u8 0).cells (m * i0.size)) = (cl (List.replicate m 0)).toArray := by
    rw [hz1, Nat.mul_one]
    apply Array.ext'
    show (madeCells #[Value.int .u8 0] m).toList = _
    rw [toList_madeCells_one]
    simp [cl]
  rw [e]
  exact (heap_alloc_new w _ : _)
/-- the row is owned once the front is laid -/
theorem own_row {w : World} {B g n m : Nat} {cs : List Nat} (hg : w.heap[g]? = some (.cells (splice (cl (List.replicate m 0)) 0 (cl cs)).toArray 5 (0, 0))) (hB : B ≤ g) (hn : cs.length = n) (hnm : n ≤ m) (hm : m ≤ 140737488355328) (hby : By cs) :
    OwnB w B (.slice (some ⟨g, 0, none⟩) n m) cs := by
  subst hn
  refine ⟨hby, by rw [cl_len, Nat.mul_one], Or.inr ⟨g, m, _, rfl, hB, hg, hnm, by unfold maxLen; omega, ?_, ?_⟩⟩
  · rw [List.size_toArray, length_splice _ _ _ (by simp [cl_len]; omega), cl_len, List.length_replicate, Nat.mul_one]
  · rw [Nat.mul_one]
    simp [splice, cl_len]
end Go.Proofs.YtkmdegmpffgplaaGreatDoor.pk
/- disk II: slices.Chunk over bytes, by 32 at a time. -/
namespace Go.Proofs.YtkmdegmpffgplaaGreatDoor
open Go.RowKit Go.Shelf pk
set_option linter.unusedVariables false
attribute [local go_sem] Oper.semAt_some

/-- how many parts there are -/
def cnt (len : Nat) : Nat := (len + 31) / 32
/-- the x-th part, as it is handed out -/
def encC (b off len : Nat) (x : Nat) : Array Value := #[.slice (some ⟨b, off + 32 * x, none⟩) (min 32 (len - 32 * x)) (min 32 (len - 32 * x))]
/-- what a round must keep -/
def KpC (B1 B2 : Nat) (A A' : World) : Prop := A'.cell? ⟨B1, 0, none⟩ = A.cell? ⟨B1, 0, none⟩ ∧ A'.cell? ⟨B2, 0, none⟩ = A.cell? ⟨B2, 0, none⟩
theorem KpC.trans {B1 B2 : Nat} {A B C : World} (h : KpC B1 B2 A B) (k : KpC B1 B2 B C) : KpC B1 B2 A C := ⟨k.1.trans h.1, k.2.trans h.2⟩
set_option maxRecDepth 100000 in
set_option maxHeartbeats 2000000 in
theorem chunk1_in (n : Nat) (hn : 1 ≤ n) (l B1 B2 b off len cap : Nat) (sa : Option Addr) (hsa : 0 < len → sa = some ⟨b, off, none⟩) (hcap : len ≤ cap ∧ cap ≤ 9223372036854775807 ∧ len ≤ 140737488355328) (J Jx : List Nat → World → Prop)
    (hY : ∀ pre x W, J pre W → pre.length < cnt len → YieldAt Fence.wide (n - 1) Tryz.prog l (encC b off len x) W fun e W' =>
      (e = .returned (.bool true) ∧ J (pre ++ [x]) W' ∧ KpC B1 B2 W W') ∨ (e = .returned (.bool false) ∧ Jx (pre ++ [x]) W'))
    (W : World) (hb1 : W.cell? ⟨B1, 0, none⟩ = some (.slice sa len cap)) (hb2 : W.cell? ⟨B2, 0, none⟩ = some (.int .i64 32)) (h0 : J [] W) (hJ : AbidesFrom W.heap.size J) :
    CallsIn Fence.wide n Tryz.prog 127 #[.func (.yield l) #[] #[], .pointer (some ⟨B1, 0, none⟩), .pointer (some ⟨B2, 0, none⟩)] W fun e W' => (∃ v, e = .returned v) ∧
      ((∃ ys, ys = List.range (cnt len) ∧ J ys W') ∨ (∃ pre, True ∧ Jx pre W')) := by
  refine callsIn_of_wp Tryz.func127 rfl trivial ?_ rfl
  simp only [Tryz.ntmps127, List.size_toArray, List.length_cons, List.length_nil, Nat.reduceAdd, Nat.reduceSub, Array.replicate_succ, Array.replicate_zero, List.push_toArray, List.append_toArray, List.nil_append, List.cons_append]
  gi_wp2
  gi_loopw [4] (fun i wr => ∃ k : Nat, k ≤ cnt len ∧ i = .int .i64 ((32 * k : Nat) : Int) ∧ Hid (J (List.range k) wr) ∧ wr.cell? ⟨B1, 0, none⟩ = some (.slice sa len cap) ∧ wr.cell? ⟨B2, 0, none⟩ = some (.int .i64 32))
    (fun i _ => (len + 32 - intOf i).toNat)
  case atStart => exact ⟨0, Nat.zero_le _, by simp, h0, hb1, hb2⟩
  case round =>
    obtain ⟨k, hk, rfl, hJs, y1, y2⟩ := hrel
    by_cases hlt : 32 * k < len
    · have hkc : k < cnt len := by unfold cnt; omega
      obtain rfl := hsa (by omega)
      obtain ⟨i, hi⟩ : ∃ i, i = 32 * k := ⟨_, rfl⟩
      have HI : Hid (i = 32 * k) := hi
      rw [← hi] at hlt ⊢
      clear hi
      have d1 : (i : Int) < (len : Int) := by omega
      have d2 : (0 : Int) ≤ (i : Int) := by omega
      gi_wp2
      refine wpIn_wide.2 ?_
      go_region
      obtain ⟨m, hm⟩ : ∃ m, m = min 32 (len - i) := ⟨_, rfl⟩
      rw [show (if ((len - i : Nat) : Int) < 32 then ((len - i : Nat) : Int) else 32) = (m : Int) by split <;> omega]
      have hJd : J (List.range k) wr.drew := hJ _ _ _ none hJs.out ⟨rfl, rfl, rfl, Nat.le_refl _, fun _ _ _ => rfl⟩ (fun r e => by cases e)
      obtain ⟨fn, tmps, assign, body, hy, hR⟩ := hY _ k wr.drew hJd (by rw [List.length_range]; exact hkc)
      have HR := (show Hid _ from hR)
      unfold encC at hy
      rw [← HI.out, ← hm] at hy
      have z1 : wr.drew.cell? ⟨B1, 0, none⟩ = some (.slice (some ⟨b, off, none⟩) len cap) := y1
      have z2 : wr.drew.cell? ⟨B2, 0, none⟩ = some (.int .i64 32) := y2
      have d3 : (i : Int) + (m : Int) ≤ (len : Int) := by omega
      have d4 : (i : Int) + (m : Int) ≤ (cap : Int) := by omega
      have d5 : (0 : Int) < (m : Int) := by omega
      have d6 : 0 < m := by omega
      have HM : Hid (m = min 32 (len - i)) := hm
      clear hR hm hJd
      gi_wp2
      refine RoundIn.mono HR.out ?_
      rintro e W3 (⟨rfl, hJ3, hk3⟩ | ⟨rfl, hJx3⟩)
      · have HJ3 := (show Hid _ from hJ3)
        have x1 := hk3.1.trans z1
        have x2 := hk3.2.trans z2
        clear hJ3 hk3
        have d7 : (i : Int) + 32 ≤ 140737488355328 + 64 := by omega
        gi_wp2
        go_roundw
        case rel => exact ⟨k + 1, by omega, by have := HI.out; rw [this]; congr 1, by show J _ _; rw [List.range_succ]; exact HJ3.out, x1, x2⟩
        case measure => simp [intOf]; omega
      · have HJ3 := (show Hid _ from hJx3)
        clear hJx3
        gi_wp2
        refine bodyPost_ret (results_none rfl _ _ _) rfl ?_
        exact ⟨⟨_, rfl⟩, .inr ⟨_, trivial, HJ3.out⟩⟩
    · have hke : k = cnt len := by unfold cnt at hk ⊢; omega
      subst hke
      gi_wp2
      go_end0
      exact ⟨⟨_, rfl⟩, .inl ⟨_, rfl, hJs.out⟩⟩
theorem chunk_in (n : Nat) (a : Option Addr) (len cap : Nat) (w : World) :
    CallsIn Fence.wide n Tryz.prog 106 #[.slice a len cap, .int .i64 32] w fun e w' => e = .returned (.func (.func 127) #[] #[.pointer (some ⟨w.heap.size, 0, none⟩), .pointer (some ⟨w.heap.size + 1, 0, none⟩)]) ∧ w' = (w.alloc (.cells #[.slice a len cap] 22)).alloc (.cells #[.int .i64 32] 3) := by
  refine callsIn_wide.2 ?_
  go_enter Tryz.func106, Tryz.ntmps106
  go_wp2
  go_ret
  exact ⟨rfl, rfl⟩
theorem chunk_stops (n : Nat) (hn : 1 ≤ n) (B1 B2 b off len cap : Nat) (sa : Option Addr) (hsa : 0 < len → sa = some ⟨b, off, none⟩) (hcap : len ≤ cap ∧ cap ≤ 9223372036854775807 ∧ len ≤ 140737488355328) (w : World) (hb1 : w.cell? ⟨B1, 0, none⟩ = some (.slice sa len cap)) (hb2 : w.cell? ⟨B2, 0, none⟩ = some (.int .i64 32)) :
    SeqStopsK Fence.wide n Tryz.prog 127 #[.pointer (some ⟨B1, 0, none⟩), .pointer (some ⟨B2, 0, none⟩)] (encC b off len) (KpC B1 B2) (fun ys => ys = List.range (cnt len)) (fun _ => True) (cnt len) w := fun l J Jx W hW hJ _ hY h0 =>
  chunk1_in n hn l B1 B2 b off len cap sa hsa hcap J Jx hY W ((hW.cell (p := ⟨B1, 0, none⟩) (World.block_lt_of_cell? w _ hb1)).trans hb1) ((hW.cell (p := ⟨B2, 0, none⟩) (World.block_lt_of_cell? w _ hb2)).trans hb2) h0 hJ
end Go.Proofs.YtkmdegmpffgplaaGreatDoor
