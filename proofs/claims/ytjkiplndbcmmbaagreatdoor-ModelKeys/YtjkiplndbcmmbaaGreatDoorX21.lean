/- texts of the model: Ta Ba Ea Eb Mrx -/
import Derived.Test.YtjkiplndbcmmbaaGreatDoorX18
import Derived.Deep.RegionHeld3
import Derived.Deep.DeepCutAuto
import Derived.Deep.RegionLaw
import Derived.Test.YtjkiplndbcmmbaaGreatDoorX03
import Derived.OpenShut
import Derived.WideShapes
set_option linter.unusedVariables false
set_option linter.unusedSimpArgs false
set_option maxHeartbeats 16000000
namespace Go.Proofs.YtjkiplndbcmmbaaGreatDoor
open Go.RowKit
def I64 (n : Int) : Prop := -9223372036854775808 ≤ n ∧ n ≤ 9223372036854775807
structure Tr (w : World) (v : Value) (ts : List (Int × Int)) : Prop where
 wf : ∀ t ∈ ts, (-9223372036854775808 ≤ t.1 ∧ t.1 ≤ 9223372036854775807) ∧ -9223372036854775808 ≤ t.2 ∧ t.2 ≤ 9223372036854775807
 form : ∃ a c, v = .slice a ts.length c ∧ ts.length ≤ c ∧ c ≤ 9223372036854775807 ∧ (0 < ts.length → ∃ b off, a = some ⟨b, off, none⟩ ∧ b < w.heap.size ∧ ∀ k, k < ts.length → w.cell? ⟨b, off + 2 * k, none⟩ = some (.int .i64 (ts.getD k (0, 0)).1) ∧ w.cell? ⟨b, off + 2 * k + 1, none⟩ = some (.int .i64 (ts.getD k (0, 0)).2))
theorem Tr.step {w w' : World} {v : Value} {ts : List (Int × Int)} (h : Tr w v ts) (k : Below w.heap.size w w') : Tr w' v ts := by
 obtain ⟨hw, a, c, e, h1, h2, h3⟩ := h
 refine ⟨hw, a, c, e, h1, h2, fun h0 => ?_⟩
 obtain ⟨b, off, ea, hb, hx⟩ := h3 h0
 exact ⟨b, off, ea, Nat.lt_of_lt_of_le hb k.size, fun j hj => ⟨(k.cell (p := ⟨b, off + 2 * j, none⟩) hb).trans (hx j hj).1, (k.cell (p := ⟨b, off + 2 * j + 1, none⟩) hb).trans (hx j hj).2⟩⟩
theorem Tr.at {w : World} {a : Option Addr} {n c : Nat} {ts : List (Int × Int)} (h : Tr w (.slice a n c) ts) (k : Nat) (hk : k < n) : ∃ b off, a = some ⟨b, off, none⟩ ∧ b < w.heap.size ∧ w.cell? ⟨b, off + 2 * k, none⟩ = some (.int .i64 (ts.getD k (0, 0)).1) ∧ w.cell? ⟨b, off + 2 * k + 1, none⟩ = some (.int .i64 (ts.getD k (0, 0)).2) := by
 obtain ⟨_, a', c', e, h1, h2, h3⟩ := h
 cases e
 obtain ⟨b, off, ea, hb, hx⟩ := h3 (by omega)
 exact ⟨b, off, ea, hb, hx k hk⟩
def tcs (ts : List (Int × Int)) : List Value := ts.flatMap (fun t => [Value.int .i64 t.1, Value.int .i64 t.2])
theorem ev (ts : List (Int × Int)) : (tcs ts).length = 2 * ts.length := by
 induction ts with
 | nil => rfl
 | cons a t ih => simp [tcs] at *; omega
theorem uj : (Tryz.prog.info? 102).map (fun i => (i.zero, i.size, i.bytes)) = some (some (.agg #[.int .i64 0, .int .i64 0]), 2, 16) := by kernel_rfl
theorem fd : ∃ i, Tryz.prog.info? 102 = some i ∧ i.zero = some (.agg #[.int .i64 0, .int .i64 0]) ∧ i.size = 2 ∧ i.bytes = 16 := by
 obtain ⟨i, hi, hz⟩ := Option.map_eq_some_iff.1 uj
 simp only [Prod.mk.injEq] at hz
 exact ⟨i, hi, hz.1, hz.2.1, hz.2.2⟩
theorem eq (ts : List (Int × Int)) : ∀ (j : Nat), j < ts.length → (tcs ts)[2 * j]? = some (.int .i64 (ts.getD j (0, 0)).1) ∧ (tcs ts)[2 * j + 1]? = some (.int .i64 (ts.getD j (0, 0)).2) := by
 induction ts with
 | nil => intro j h; simp at h
 | cons a ts ih =>
  intro j h
  cases j with
  | zero => exact ⟨rfl, rfl⟩
  | succ j =>
   have := ih j (by simpa using h)
   show (Value.int .i64 a.1 :: Value.int .i64 a.2 :: tcs ts)[2 * (j + 1)]? = _ ∧ (Value.int .i64 a.1 :: Value.int .i64 a.2 :: tcs ts)[2 * (j + 1) + 1]? = _
   rw [show 2 * (j + 1) = 2 * j + 1 + 1 by omega]
   simpa using this
structure OwnT (w : World) (B : Nat) (v : Value) (ts : List (Int × Int)) : Prop where
 wf : ∀ t ∈ ts, I64 t.1 ∧ I64 t.2
 own : w.ownsRow B 102 2 v ts.length (tcs ts)
theorem cB (w : World) (B : Nat) : OwnT w B (.slice none 0 0) [] := ⟨fun t h => (by cases h), World.ownsRow_nil _ _ _ _⟩
theorem OwnT.block {w : World} {B : Nat} {v : Value} {cs : List (Int × Int)} (h : OwnT w B v cs) : ∀ k, v.ownBlock = some k → B ≤ k := by
 obtain ⟨hl, h2⟩ := h.own
 rcases h2 with ⟨rfl, h0⟩ | ⟨g, cap, cur, rfl, hb, _⟩
 ·intro k hk; simp [Value.ownBlock] at hk
 ·intro k hk; simp [Value.ownBlock] at hk; omega
theorem OwnT.lower {w : World} {B B' : Nat} {v : Value} {cs : List (Int × Int)} (h : OwnT w B v cs) (hB : B' ≤ B) : OwnT w B' v cs := by
 refine ⟨h.wf, h.own.1, ?_⟩
 rcases h.own.2 with h2 | ⟨g, cap, cur, e, hb, r⟩
 ·exact Or.inl h2
 ·exact Or.inr ⟨g, cap, cur, e, by omega, r⟩
theorem OwnT.step {w w' : World} {B : Nat} {v : Value} {cs : List (Int × Int)} (h : OwnT w B v cs) (k : Below w.heap.size w w') : OwnT w' B v cs := by
 refine ⟨h.wf, h.own.1, ?_⟩
 rcases h.own.2 with h2 | ⟨g, cap, cur, e, hb, hg, r⟩
 ·exact Or.inl h2
 ·have hlt : g < w.heap.size := by
   rcases Nat.lt_or_ge g w.heap.size with hlt | hge
   ·exact hlt
   ·rw [Array.getElem?_eq_none hge] at hg; cases hg
  exact Or.inr ⟨g, cap, cur, e, hb, (k.block g hlt).trans hg, r⟩
theorem mE (a b : List (Int × Int)) : tcs (a ++ b) = tcs a ++ tcs b := by simp [tcs]
theorem mF {ts : List (Int × Int)} {u : Value} (h : u ∈ tcs ts) : u.oneCell' = true := by
 unfold tcs at h
 obtain ⟨t, _, ht⟩ := List.mem_flatMap.1 h
 simp at ht
 rcases ht with rfl | rfl <;> rfl
theorem OwnT.tr {w : World} {B : Nat} {v : Value} {ts : List (Int × Int)} (h : OwnT w B v ts) : Tr w v ts := by
 refine ⟨h.wf, ?_⟩
 have ho := h.own
 rcases h.own.2 with ⟨rfl, h0⟩ | ⟨g, cap, cur, rfl, hb, hg, hcap, hcm, hcs, htk⟩
 ·exact ⟨none, 0, by rw [h0], by omega, by omega, fun h => by omega⟩
 ·refine ⟨some ⟨g, 0, none⟩, cap, rfl, hcap, by unfold maxLen at hcm; omega, fun h0 => ⟨g, 0, rfl, ?_, fun k hk => ?_⟩⟩
  ·rcases Nat.lt_or_ge g w.heap.size with hlt | hge
   ·exact hlt
   ·rw [Array.getElem?_eq_none hge] at hg; cases hg
  ·have hlt1 : 2 * k + 1 < (tcs ts).length := by rw [ev]; omega
   have e1 := ho.cellAt (2 * k) (by omega)
   have e2 := ho.cellAt (2 * k + 1) (by omega)
   rw [Nat.zero_add]
   exact ⟨by rw [e1, (eq ts k hk).1], by rw [e2, (eq ts k hk).2]⟩
theorem vo {w : World} {y : Nat → Option Bool} {o : Oper} {a : Act} {Q : Exit → Act → World → Prop} {K : Act → World → Prop} {k0 : Prop} (hgd : Region.wanted o y = true) (s x : Operand)
  (ho : o.op = .call { callee := .builtin .append, args := #[s, x], argTypes := #[29, 29] })
  (B : Nat) (cs bs : List (Int × Int)) (v : Value) (b off c : Nat) (hs : a.eval s = v) (hx : a.eval x = .slice (some ⟨b, off, none⟩) bs.length c)
  (hown : OwnT w B v cs) (hwf : ∀ t ∈ bs, I64 t.1 ∧ I64 t.2) (hcell : ∀ k, k < bs.length → w.cell? ⟨b, off + 2 * k, none⟩ = some (.int .i64 (bs.getD k (0, 0)).1) ∧ w.cell? ⟨b, off + 2 * k + 1, none⟩ = some (.int .i64 (bs.getD k (0, 0)).2)) (hB : B ≤ w.heap.size) (hl : cs.length + bs.length ≤ 8796093022208)
  (h : ∀ v' w', OwnT w' B v' (cs ++ bs) → Below B w w' → w.grownBy w' v.ownBlock → K (a.put o.dst v') w') :
  if Region.wanted o y then o.wp Tryz.prog a w K Q else k0 := by
 obtain ⟨i0, hi, hz0, hz1, hz2⟩ := fd
 rw [if_pos hgd]
 refine wp_append_own _ s x 29 ho B 102 i0 (.agg #[.int .i64 0, .int .i64 0]) 2 16 Tryz.underlying29 hi hz0 hz1 hz2 rfl (by decide) v cs.length (tcs cs) hs hown.own ⟨b, off, none⟩ bs.length c (tcs bs) hx (by rw [ev]; omega) ?_ (fun u hu => mF hu) (by unfold maxLen; omega) (by omega) hB (fun v' w' g1 g2 _ => h v' w' ⟨fun t ht => ?_, ?_⟩ ((Below.refl _ _).grown g2 hB hown.block) g2)
 ·intro j u hj
  have hj' : j < (tcs bs).length := (List.getElem?_eq_some_iff.1 hj).1
  rw [ev] at hj'
  rw [Go.WideShapes.add_plain]
  have e : j = 2 * (j / 2) ∨ j = 2 * (j / 2) + 1 := by omega
  have hk := hcell (j / 2) (by omega)
  have hg := eq bs (j / 2) (by omega)
  rcases e with e | e
  ·rw [e] at hj ⊢
   rw [hk.1, ← hg.1, hj]
  ·rw [e] at hj ⊢
   rw [← Nat.add_assoc, hk.2, ← hg.2, hj]
 ·rcases List.mem_append.1 ht with ht | ht
  ·exact hown.wf t ht
  ·exact hwf t ht
 ·rw [List.length_append, mE]
  exact g1
theorem sP {w : World} {ops : Array Oper} {rest : List Oper} {o : Oper} {a : Act} {Q : Exit → Act → World → Prop} (hgd : o.guard = none) (s x : Operand)
  (ho : o.op = .call { callee := .builtin .append, args := #[s, x], argTypes := #[29, 29] })
  (B : Nat) (cs bs : List (Int × Int)) (v : Value) (b off c : Nat) (hs : a.eval s = v) (hx : a.eval x = .slice (some ⟨b, off, none⟩) bs.length c)
  (hown : OwnT w B v cs) (hwf : ∀ t ∈ bs, I64 t.1 ∧ I64 t.2) (hcell : ∀ k, k < bs.length → w.cell? ⟨b, off + 2 * k, none⟩ = some (.int .i64 (bs.getD k (0, 0)).1) ∧ w.cell? ⟨b, off + 2 * k + 1, none⟩ = some (.int .i64 (bs.getD k (0, 0)).2)) (hB : B ≤ w.heap.size) (hl : cs.length + bs.length ≤ 8796093022208)
  (h : ∀ v' w', OwnT w' B v' (cs ++ bs) → Below B w w' → w.grownBy w' v.ownBlock → wpList Tryz.prog ops Q rest (a.put o.dst v') w') :
  wpList Tryz.prog ops Q (o :: rest) a w :=
 wpList_step fun K hK => vo (by simp [Region.wanted, hgd]) s x ho B cs bs v b off c hs hx hown hwf hcell hB hl (fun v' w' p q r => hK _ _ (h v' w' p q r))
theorem sQ {w : World} {ops : Array Oper} {rest : List Oper} {o : Oper} {a : Act} {Q : Exit → Act → World → Prop} (hgd : o.guard = none) (s x : Operand)
  (ho : o.op = .call { callee := .builtin .append, args := #[s, x], argTypes := #[29, 29] })
  (B : Nat) (cs bs : List (Int × Int)) (v u : Value) (hs : a.eval s = v) (hx : a.eval x = u)
  (hown : OwnT w B v cs) (hu : Tr w u bs) (hno : ∀ n c, u = .slice none n c → c = 0) (hB : B ≤ w.heap.size) (hl : cs.length + bs.length ≤ 8796093022208)
  (h : ∀ v' w', OwnT w' B v' (cs ++ bs) → Below B w w' → w.grownBy w' v.ownBlock → wpList Tryz.prog ops Q rest (a.put o.dst v') w') :
  wpList Tryz.prog ops Q (o :: rest) a w := by
 obtain ⟨i0, hi, hz0, hz1, hz2⟩ := fd
 obtain ⟨hwf, ad, c, rfl, h1, h2, h4⟩ := hu
 by_cases h0 : bs = []
 ·subst h0
  cases ad with
  | none =>
   obtain rfl : c = 0 := hno _ _ rfl
   refine wpList_append_own_none hgd s x 29 ho B 102 i0 2 Tryz.underlying29 hi v cs.length (tcs cs) hs hown.own hx ?_
   exact h v w (by simpa using hown) (Below.refl _ _) (World.grownBy.refl _ _)
  | some ad =>
   refine wpList_append_own _ hgd s x 29 ho B 102 i0 (.agg #[.int .i64 0, .int .i64 0]) 2 16 Tryz.underlying29 hi hz0 hz1 hz2 rfl (by decide) v cs.length (tcs cs) hs hown.own ad 0 c [] hx rfl (fun j u hj => by simp at hj) (fun u hu => by simp at hu) (by unfold maxLen; omega) (by simp at hl; omega) hB (fun v' w' g1 g2 _ => h v' w' ⟨by simpa using hown.wf, by simpa using g1⟩ ((Below.refl _ _).grown g2 hB hown.block) g2)
 ·have hp : 0 < bs.length := List.length_pos_iff.2 h0
  obtain ⟨b, off, rfl, hb, hcell⟩ := h4 hp
  exact sP hgd s x ho B cs bs v b off c hs hx hown hwf hcell hB hl h
theorem iK (w : World) : OwnT (w.alloc (.cells #[] 102)) w.heap.size (.slice (some ⟨w.heap.size, 0, none⟩) 0 0) [] :=
 ⟨fun t h => (by cases h), World.ownsRow_made w #[] 0 (Nat.le_refl _) (by unfold maxLen; omega) rfl⟩
theorem Tr.front {w : World} {a : Option Addr} {n c : Nat} {ts ms : List (Int × Int)} (h : Tr w (.slice a n c) (ts ++ ms)) : Tr w (.slice a ts.length c) ts := by
 obtain ⟨hw, a', c', e, h1, h2, h3⟩ := h
 cases e
 rw [List.length_append] at h1 h3
 refine ⟨fun t ht => hw t (List.mem_append_left _ ht), a, c, rfl, by omega, h2, fun h0 => ?_⟩
 obtain ⟨b, off, ea, hb, hx⟩ := h3 (by omega)
 refine ⟨b, off, ea, hb, fun k hk => ?_⟩
 have := hx k (by omega)
 have e : (ts ++ ms).getD k (0, 0) = ts.getD k (0, 0) := by simp [List.getD, List.getElem?_append_left hk]
 rwa [e] at this
def wi (n l g : Int) : Bool := decide (l ≤ n ∧ n ≤ g)
theorem aG (n l g : Int) (w : World) : Calls Tryz.prog 193 #[.int .i64 n, .int .i64 l, .int .i64 g] w fun e w' => e = .returned (.bool (wi n l g)) ∧ w' = w := by
 unfold wi
 by_cases h1 : l ≤ n
 ·by_cases h2 : n ≤ g
  ·rw [show decide (l ≤ n ∧ n ≤ g) = true by simp; omega]
   go_enter Tryz.func193, Tryz.ntmps193
   go_wp2_with fail
   go_ret
   exact ⟨rfl, rfl⟩
  ·rw [show decide (l ≤ n ∧ n ≤ g) = false by simp; omega]
   go_enter Tryz.func193, Tryz.ntmps193
   go_wp2_with fail
   go_ret
   exact ⟨rfl, rfl⟩
 ·rw [show decide (l ≤ n ∧ n ≤ g) = false by simp; omega]
  go_enter Tryz.func193, Tryz.ntmps193
  go_wp2_with fail
  go_ret
  exact ⟨rfl, rfl⟩
def tf (ts : List (Int × Int)) (i : Nat) : Int := (ts.getD i (0, 0)).1
def tr (ts : List (Int × Int)) (i : Nat) : Int := (ts.getD i (0, 0)).2
def gdb (ts : List (Int × Int)) (i : Nat) : Bool := decide ((i = 0 → tf ts i = 0) ∧ (0 < i → tf ts (i - 1) < tf ts i) ∧ tf ts i ≤ 10000000000000 ∧ 0 ≤ tr ts i ∧ tr ts i ≤ 1000000000)
def terr (ts : List (Int × Int)) : Int := if 8 < ts.length then 2 else if ts.length = 0 then 3 else if (List.range ts.length).all (gdb ts) then 0 else 3
theorem nO {ts : List (Int × Int)} (h : 8 < ts.length) : terr ts = 2 := by unfold terr; rw [if_pos h]
theorem nP {ts : List (Int × Int)} (h : ts.length = 0) : terr ts = 3 := by unfold terr; rw [if_neg (by omega), if_pos h]
theorem ku {ts : List (Int × Int)} (h : ¬ 8 < ts.length) {i : Nat} (hi : i < ts.length) (hb : gdb ts i = false) : terr ts = 3 := by
 unfold terr
 rw [if_neg h, if_neg (by omega), if_neg]
 intro e
 have := List.all_eq_true.1 e i (List.mem_range.2 hi)
 rw [hb] at this
 cases this
theorem sL {ts : List (Int × Int)} (h : ¬ 8 < ts.length) (h0 : ts.length ≠ 0) (hg : ∀ i, i < ts.length → gdb ts i = true) : terr ts = 0 := by
 unfold terr
 rw [if_neg h, if_neg h0, if_pos]
 exact List.all_eq_true.2 (fun i hi => hg i (List.mem_range.1 hi))
theorem Tr.cells {w : World} {a : Option Addr} {n c : Nat} {ts : List (Int × Int)} (h : Tr w (.slice a n c) ts) (k : Nat) (hk : k < n) : ∃ b off, a = some ⟨b, off, none⟩ ∧ w.cell? ⟨b, off + k * 2, none⟩ = some (.int .i64 (tf ts k)) ∧ w.cell? ⟨b, off + k * 2 + 1, none⟩ = some (.int .i64 (tr ts k)) := by
 obtain ⟨b, off, e, _, h1, h2⟩ := h.at k hk
 rw [Nat.mul_comm 2 k] at h1 h2
 exact ⟨b, off, e, h1, h2⟩
theorem bF {n l g : Int} (h1 : l ≤ n) (h2 : n ≤ g) : wi n l g = true := decide_eq_true ⟨h1, h2⟩
theorem iT {n l g : Int} (h : ¬ (l ≤ n ∧ n ≤ g)) : wi n l g = false := decide_eq_false h
def cdg (i : Nat) : Nat := [2, 2, 0, 3].getD i 0
theorem dy (i : Nat) : cdg i ≤ 3 := by
 unfold cdg
 match i with
 | 0 => decide
 | 1 => decide
 | 2 => decide
 | 3 => decide
 | n + 4 => simp
structure Cu (w : World) : Prop where
 row : ∀ i, i < 4 → w.cell? ⟨0, i * 2 + 1, none⟩ = some (.int .i64 ((cdg i : Nat) : Int))
theorem Cu.lt {w : World} (h : Cu w) : 0 < w.heap.size := World.block_lt_of_cell? w _ (h.row 0 (by omega))
theorem Cu.step {w w' : World} (h : Cu w) (k : Below w.heap.size w w') : Cu w' := ⟨fun i hi => (k.cell (p := ⟨0, i * 2 + 1, none⟩) h.lt).trans (h.row i hi)⟩
theorem Cu.alloc {w : World} (h : Cu w) (o : Obj) : Cu (w.alloc o) := h.step ((Below.refl _ _).alloc (Nat.le_refl _) o)
theorem Cu.drew {w : World} (h : Cu w) : Cu w.drew := h.step ((Below.refl _ _).drew)
theorem Cu.upd {w w' : World} {p : Nat} (h : Cu w) (k : Upd p w w') (hp : 0 ≠ p) : Cu w' := ⟨fun i hi => (World.cell?_of_block (w := w) (w' := w') (a := ⟨0, i * 2 + 1, none⟩) (k.block 0 hp)).trans (h.row i hi)⟩
theorem cW (n : Int) (w : World) : Calls Tryz.prog 130 #[.int .i64 n] w fun e w' => e = .returned (.bool (wi n (0) 3)) ∧ w' = w := by
 unfold wi
 by_cases h1 : 0 ≤ n
 ·by_cases h2 : n < 4
  ·rw [show decide (0 ≤ n ∧ n ≤ 3) = true by simp; omega]
   go_enter Tryz.func130, Tryz.ntmps130
   go_wp2_with fail
   go_ret
   exact ⟨rfl, rfl⟩
  ·rw [show decide (0 ≤ n ∧ n ≤ 3) = false by simp; omega]
   go_enter Tryz.func130, Tryz.ntmps130
   go_wp2_with fail
   go_ret
   exact ⟨rfl, rfl⟩
 ·rw [show decide (0 ≤ n ∧ n ≤ 3) = false by simp; omega]
  go_enter Tryz.func130, Tryz.ntmps130
  go_wp2_with fail
  go_ret
  exact ⟨rfl, rfl⟩
theorem ed (n : Int) (w : World) : Calls Tryz.prog 184 #[.int .i64 n] w fun e w' => e = .returned (.bool (wi n (-10000000000000) 10000000000000)) ∧ w' = w := by
 unfold wi
 by_cases h1 : -10000000000000 ≤ n
 ·by_cases h2 : n ≤ 10000000000000
  ·rw [show decide (-10000000000000 ≤ n ∧ n ≤ 10000000000000) = true by simp; omega]
   go_enter Tryz.func184, Tryz.ntmps184
   go_wp2_with fail
   go_ret
   exact ⟨rfl, rfl⟩
  ·rw [show decide (-10000000000000 ≤ n ∧ n ≤ 10000000000000) = false by simp; omega]
   go_enter Tryz.func184, Tryz.ntmps184
   go_wp2_with fail
   go_ret
   exact ⟨rfl, rfl⟩
 ·rw [show decide (-10000000000000 ≤ n ∧ n ≤ 10000000000000) = false by simp; omega]
  go_enter Tryz.func184, Tryz.ntmps184
  go_wp2_with fail
  go_ret
  exact ⟨rfl, rfl⟩
theorem gz (i : Nat) (w : World) (T : Cu w) (hi : i < 4) :
  Calls Tryz.prog 76 #[.int .i64 i] w fun e w' => e = .returned (.tuple #[.int .i64 (cdg i), .int .i64 0]) ∧ w' = w := by
 have c1 := T.row i hi
 have hw := bF (n := (i : Int)) (l := 0) (g := 3) (by omega) (by omega)
 clear T
 generalize cdg i = n at *
 go_enter Tryz.func76, Tryz.ntmps76
 go_wp2_with fail
 refine (cW i _).mono ?_
 rintro e w1 ⟨rfl, hq⟩
 obtain rfl := hq.symm
 rw [hw]
 go_wp2_with fail
 go_ret2
 exact ⟨rfl, rfl⟩
theorem n8 (c : Int) (w : World) (hc : ¬ (0 ≤ c ∧ c ≤ 3)) :
  Calls Tryz.prog 76 #[.int .i64 c] w fun e w' => e = .returned (.tuple #[.int .i64 0, .int .i64 1]) ∧ w' = w := by
 have hw := iT hc
 clear hc
 go_enter Tryz.func76, Tryz.ntmps76
 go_wp2_with fail
 refine (cW c _).mono ?_
 rintro e w1 ⟨rfl, hq⟩
 obtain rfl := hq.symm
 rw [hw]
 go_wp2_with fail
 go_ret2
 exact ⟨rfl, rfl⟩
def mform (c n : Int) : Bool := wi c 0 3 && wi n (-10000000000000) 10000000000000
theorem fA (c n : Int) (w : World) : Calls Tryz.prog 152 #[.agg #[.int .i64 c, .int .i64 n]] w fun e w' => e = .returned (.int .i64 (if mform c n then 0 else 3)) ∧ Below w.heap.size w w' := by
 have B0 : Hid _ := (Below.refl w.heap.size w).alloc (Nat.le_refl _) (.cells #[.int .i64 c, .int .i64 n] 195)
 unfold mform
 by_cases h1 : wi c 0 3 = true
 ·by_cases h2 : wi n (-10000000000000) 10000000000000 = true
  ·rw [h1, h2]
   go_enter Tryz.func152, Tryz.ntmps152
   go_wp2_with fail
   refine (cW c _).mono ?_
   rintro e w1 ⟨rfl, hq⟩
   obtain rfl := hq.symm
   rw [h1]
   go_wp2_with fail
   refine (ed n _).mono ?_
   rintro e w1 ⟨rfl, hq⟩
   obtain rfl := hq.symm
   rw [h2]
   go_wp2_with fail
   go_ret
   exact ⟨rfl, B0.out⟩
  ·rw [h1, Bool.eq_false_iff.2 h2]
   replace h2 : wi n (-10000000000000) 10000000000000 = false := by simpa using h2
   go_enter Tryz.func152, Tryz.ntmps152
   go_wp2_with fail
   refine (cW c _).mono ?_
   rintro e w1 ⟨rfl, hq⟩
   obtain rfl := hq.symm
   rw [h1]
   go_wp2_with fail
   refine (ed n _).mono ?_
   rintro e w1 ⟨rfl, hq⟩
   obtain rfl := hq.symm
   rw [h2]
   go_wp2_with fail
   go_ret
   exact ⟨rfl, B0.out⟩
 ·rw [Bool.eq_false_iff.2 h1]
  replace h1 : wi c 0 3 = false := by simpa using h1
  go_enter Tryz.func152, Tryz.ntmps152
  go_wp2_with fail
  refine (cW c _).mono ?_
  rintro e w1 ⟨rfl, hq⟩
  obtain rfl := hq.symm
  rw [h1]
  go_wp2_with fail
  go_ret
  exact ⟨rfl, B0.out⟩
def mcl (c n : Int) : List Value := [.int .i64 c, .int .i64 n]
theorem cV (c n : Int) : ∀ v ∈ mcl c n, v.oneCell' = true := by intro v hv; simp [mcl] at hv; rcases hv with rfl | rfl <;> rfl
theorem ce : (Tryz.prog.info? 195).map (·.size) = some 2 := by kernel_rfl
theorem go (c n : Int) (w : World) (h : wi n (-10000000000000) 10000000000000 = true) :
  Calls Tryz.prog 162 #[.int .i64 c, .int .i64 n] w fun e w' => e = .returned (.tuple #[.agg (mcl c n).toArray, .int .i64 0]) ∧ Below w.heap.size w w' := by
 have V0 : Hid _ := aa w (mcl 0 0) 195
 have B0 : Hid _ := (Below.refl w.heap.size w).alloc (Nat.le_refl _) (.cells (mcl 0 0).toArray 195)
 go_enter Tryz.func162, Tryz.ntmps162
 go_wp2_with fail
 refine (ed n _).mono ?_
 rintro e w1 ⟨rfl, hq⟩
 obtain rfl := hq.symm
 rw [h]
 go_wp2_with (refine stA rfl 195 _ _ rfl w.heap.size (by rfl) (mcl 0 0) (mcl c n) (by rfl) 195 V0.out ce rfl (cV c n) ?_; intro w2 V2 U2)
 have hld := run_loadVar_row (P := Tryz.prog) w2 w.heap.size 195 195 _ (0, 0) _ V2.blk Tryz.underlying195 rfl ce
 exact bodyPost_ret (v := .tuple #[.agg (mcl c n).toArray, .int .i64 0]) (by simp [results, Tryz.results162, asAddr, hld]) rfl ⟨rfl, U2.bel B0.out (Nat.le_refl _)⟩
theorem ip (c n : Int) (w : World) (h : wi n (-10000000000000) 10000000000000 = false) :
  Calls Tryz.prog 162 #[.int .i64 c, .int .i64 n] w fun e w' => e = .returned (.tuple #[.agg (mcl 0 0).toArray, .int .i64 4]) ∧ Below w.heap.size w w' := by
 have V0 : Hid _ := aa w (mcl 0 0) 195
 have B0 : Hid _ := (Below.refl w.heap.size w).alloc (Nat.le_refl _) (.cells (mcl 0 0).toArray 195)
 go_enter Tryz.func162, Tryz.ntmps162
 go_wp2_with fail
 refine (ed n _).mono ?_
 rintro e w1 ⟨rfl, hq⟩
 obtain rfl := hq.symm
 rw [h]
 go_wp2_with (refine stA rfl 195 _ _ rfl w.heap.size (by rfl) (mcl 0 0) (mcl 0 0) (by rfl) 195 V0.out ce rfl (cV 0 0) ?_; intro w2 V2 U2)
 have hld := run_loadVar_row (P := Tryz.prog) w2 w.heap.size 195 195 _ (0, 0) _ V2.blk Tryz.underlying195 rfl ce
 exact bodyPost_ret (v := .tuple #[.agg (mcl 0 0).toArray, .int .i64 4]) (by simp [results, Tryz.results162, asAddr, hld]) rfl ⟨rfl, U2.bel B0.out (Nat.le_refl _)⟩
def ct : List Nat := [0, 8, 2, 1, 2, 2, 3, 3, 2, 4, 3, 3, 4, 1, 3, 1]
structure Tc (w : World) : Prop where
 row : ∀ i, i < 16 → w.cell? ⟨1, i, none⟩ = some (.int .i64 ((ct.getD i 0 : Nat) : Int))
theorem Tc.lt {w : World} (h : Tc w) : 1 < w.heap.size := World.block_lt_of_cell? w _ (h.row 0 (by omega))
theorem Tc.step {w w' : World} (h : Tc w) {B : Nat} (k : Below B w w') (hB : 1 + 1 ≤ B) : Tc w' := ⟨fun i hi => (k.cell (p := ⟨1, i, none⟩) (by show 1 < B; omega)).trans (h.row i hi)⟩
theorem vL (i : Nat) : ct.getD i 0 ≤ 8 := by
 by_cases h : i < 16
 ·have : ∀ j : Fin 16, ct.getD j.val 0 ≤ 8 := by decide
  exact this ⟨i, h⟩
 ·simp [ct, List.getD, List.getElem?_eq_none (show ([0, 8, 2, 1, 2, 2, 3, 3, 2, 4, 3, 3, 4, 1, 3, 1] : List Nat).length ≤ i by simp; omega)]
def ec (op key : Nat) (n0 n1 n2 n3 n4 n5 n6 n7 : Int) (tv : Value) : Array Value := #[.int .u8 op, .int .u64 key, .int .i64 n0, .int .i64 n1, .int .i64 n2, .int .i64 n3, .int .i64 n4, .int .i64 n5, .int .i64 n6, .int .i64 n7, tv]
theorem iz (op : Nat) (w : World) (T : Tc w) (h1 : 1 ≤ op) (h2 : op ≤ 15) :
  Calls Tryz.prog 107 #[.int .u8 op] w fun e w' => e = .returned (.tuple #[.int .i64 ((ct.getD op 0 : Nat) : Int), .int .i64 0]) ∧ w' = w := by
 have c1 := T.row op (by omega)
 clear T
 generalize ct.getD op 0 = n at *
 go_enter Tryz.func107, Tryz.ntmps107
 go_wp2_with fail
 go_ret2
 exact ⟨rfl, rfl⟩
theorem oP (op : Nat) (w : World) (h : op < 1 ∨ 15 < op) (h2 : op ≤ 255) :
  Calls Tryz.prog 107 #[.int .u8 op] w fun e w' => e = .returned (.tuple #[.int .i64 0, .int .i64 1]) ∧ w' = w := by
 rcases h with h | h
 ·obtain rfl : op = 0 := by omega
  rw [show ((0 : Nat) : Int) = 0 from rfl]
  go_enter Tryz.func107, Tryz.ntmps107
  go_wp2_with fail
  go_ret2
  exact ⟨rfl, rfl⟩
 ·go_enter Tryz.func107, Tryz.ntmps107
  go_wp2_with fail
  go_ret2
  exact ⟨rfl, rfl⟩
def most (op : Nat) : Nat := if op = 1 then 8 else 0
theorem mp (op : Nat) (w : World) (h2 : op ≤ 255) :
  Calls Tryz.prog 108 #[.int .u8 op] w fun e w' => e = .returned (.int .i64 ((most op : Nat) : Int)) ∧ w' = w := by
 unfold most
 by_cases h : op = 1
 ·subst h
  rw [show ((1 : Nat) : Int) = 1 from rfl]
  go_enter Tryz.func108, Tryz.ntmps108
  go_wp2_with fail
  go_ret
  exact ⟨rfl, rfl⟩
 ·have h3 : ¬ ((op : Int) = 1) := by omega
  rw [if_neg h]
  go_enter Tryz.func108, Tryz.ntmps108
  go_wp2_with fail
  go_ret
  exact ⟨rfl, rfl⟩
structure E8 where
 op : Nat
 key : Nat
 ns : List Int
 ts : List (Int × Int)
structure E8.form (x : E8) : Prop where
 lo : 1 ≤ x.op
 hi : x.op ≤ 15
 tiers : x.ts.length ≤ most x.op
 zero : ∀ i, ct.getD x.op 0 ≤ i → i < 8 → x.ns.getD i 0 = 0
structure E8.ok (x : E8) : Prop where
 op : x.op ≤ 255
 key : x.key ≤ 18446744073709551615
 len : x.ns.length = 8
 ns : ∀ n ∈ x.ns, -9223372036854775808 ≤ n ∧ n ≤ 9223372036854775807
def E8.cells (x : E8) (tv : Value) : List Value := [.int .u8 (x.op : Int), .int .u64 (x.key : Int)] ++ x.ns.map (fun n => Value.int .i64 n) ++ [tv]
theorem E8.c0 (x : E8) (tv : Value) : (x.cells tv)[0]? = some (.int .u8 (x.op : Int)) := rfl
theorem E8.c1 (x : E8) (tv : Value) : (x.cells tv)[1]? = some (.int .u64 (x.key : Int)) := rfl
theorem E8.cn {x : E8} (h : x.ok) (tv : Value) (i : Nat) (hi : i < 8) : (x.cells tv)[2 + i]? = some (.int .i64 (x.ns.getD i 0)) := by
 have hl : i < x.ns.length := by rw [h.len]; exact hi
 simp [E8.cells, List.getElem?_append, Nat.add_comm 2 i, hl]
theorem E8.ctv {x : E8} (h : x.ok) (tv : Value) : (x.cells tv)[10]? = some tv := by
 simp [E8.cells, h.len]
theorem E8.nbd {x : E8} (h : x.ok) (i : Nat) : -9223372036854775808 ≤ x.ns.getD i 0 ∧ x.ns.getD i 0 ≤ 9223372036854775807 := by
 by_cases hi : i < x.ns.length
 ·exact h.ns _ (by simp [hi])
 ·simp [List.getD, List.getElem?_eq_none (Nat.le_of_not_lt hi)]
def zeros (x : E8) : Prop := ∀ i, ct.getD x.op 0 ≤ i → i < 8 → x.ns.getD i 0 = 0
set_option maxRecDepth 100000 in
theorem jA (x : E8) (tv : Value) (w : World) (hx : x.ok) (T : Tc w) (R : Tr w tv x.ts) (f1 : 1 ≤ x.op) (f2 : x.op ≤ 15) (f3 : x.ts.length ≤ most x.op) (b : Int) (hb : (zeros x ∧ b = 0) ∨ (¬ zeros x ∧ b = 3)) :
  Calls Tryz.prog 71 #[.agg (x.cells tv).toArray] w fun e w' => e = .returned (.int .i64 b) ∧ Below w.heap.size w w' := by
 have V := aa w (x.cells tv) 31
 have y0 := V.cell 0 (x.c0 tv)
 have y10 := V.cell 10 (E8.ctv hx tv)
 have HV : Hid _ := V
 obtain ⟨ta, tc, rfl, ht1, ht2⟩ : ∃ a c, tv = .slice a x.ts.length c ∧ x.ts.length ≤ c ∧ c ≤ 9223372036854775807 := by obtain ⟨_, a, c, e, h1, h2, _⟩ := R; exact ⟨a, c, e, h1, h2⟩
 have HB : Hid _ := (Below.refl w.heap.size w).alloc (Nat.le_refl _) (.cells (x.cells (.slice ta x.ts.length tc)).toArray 31)
 have hT : Hid _ := T.step HB.out (by have := T.lt; omega)
 have m8 : most x.op ≤ 8 := by unfold most; split <;> omega
 have cle := vL x.op
 clear V T R
 generalize x.ts.length = tn at *
 unfold zeros at hb
 have HC : Hid (∀ i, i < 8 → (w.alloc (.cells (x.cells (.slice ta tn tc)).toArray 31)).cell? ⟨w.heap.size, 2 + i, none⟩ = some (.int .i64 (x.ns.getD i 0))) := fun i h2 => HV.out.cell (2 + i) (E8.cn hx _ i h2)
 have HNB : Hid (∀ i, -9223372036854775808 ≤ x.ns.getD i 0 ∧ x.ns.getD i 0 ≤ 9223372036854775807) := fun i => E8.nbd hx i
 obtain ⟨op, hop⟩ : ∃ op, op = x.op := ⟨_, rfl⟩
 rw [← hop] at y0 f1 f2 f3 hb m8 cle
 obtain ⟨N, hN⟩ : ∃ N, N = ct.getD op 0 := ⟨_, rfl⟩
 have HN : Hid _ := hN
 rw [← hN] at cle hb
 have HR : Hid _ := hb
 obtain ⟨ms, hms⟩ : ∃ ms, ms = most op := ⟨_, rfl⟩
 have HM : Hid _ := hms
 rw [← hms] at f3 m8
 have dm : decide (ms < tn) = false := decide_eq_false (by omega)
 clear hop hN hx hms hb
 go_enter Tryz.func71, Tryz.ntmps71
 go_wp2_with fail
 generalize w.alloc (.cells (x.cells (.slice ta tn tc)).toArray 31) = w1 at *
 refine (iz op _ hT.out f1 f2).mono ?_
 rintro e w2 ⟨rfl, rfl⟩
 rw [← HN.out]
 go_wp2_with fail
 go_region_held3 (fun w' => w'.cell? ⟨w.heap.size, 0, none⟩ = some (.int .u8 (op : Int)) ∧ w'.cell? ⟨w.heap.size, 10, none⟩ = some (.slice ta tn tc))
  (first | exact ⟨y0, y10⟩)
  (first | (go_at_call 108; refine (mp op _ (by omega)).mono ?_; rintro e w4 ⟨rfl, rfl⟩; rw [← HM.out]))
 have HC2 : Hid (∀ i, i < 8 → w2.drew.cell? ⟨w.heap.size, 2 + i, none⟩ = some (.int .i64 (x.ns.getD i 0))) := HC.out
 have HB2 : Hid _ := HB.out.drew
 clear y0 y10 HC HB hT HV
 generalize w2.drew = w3 at *
 by_cases h8 : N = 8
 ·subst h8
  rw [show ((8 : Nat) : Int) = 8 from rfl]
  go_wp2_with fail
  go_loop [28] (fun i => i = .int .i64 0) (fun _ => 0)
  case atStart => rfl
  case round =>
   subst hrel
   go_wp2_with fail
   go_ret
   refine ⟨?_, HB2.out⟩
   rcases HR.out with ⟨_, e⟩ | ⟨h, e⟩
   ·rw [e]; rfl
   ·exact absurd (fun i h1 h2 => by omega) h
 ·have n1 : ¬ (8 = N) := by omega
  have n2 : (N : Int) ≤ 8 := by omega
  go_wp2_with fail
  obtain ⟨M, hM⟩ : ∃ M, M = 8 - N := ⟨_, rfl⟩
  have HM2 : Hid _ := hM
  rw [← hM]
  have hMN : M + N = 8 := by omega
  clear hM
  go_loop [28] (fun i => ∃ k : Nat, k ≤ M ∧ i = .int .i64 k ∧ Hid (∀ j, j < k → x.ns.getD (N + j) 0 = 0)) (fun i => M - (intOf i).toNat)
  case atStart => exact ⟨0, by omega, rfl, fun j hj => by omega⟩
  case round =>
   obtain ⟨k, hk, rfl, hz⟩ := hrel
   by_cases hkM : k = M
   ·subst hkM
    go_wp2_with fail
    go_ret
    refine ⟨?_, HB2.out⟩
    rcases HR.out with ⟨_, e⟩ | ⟨h, e⟩
    ·rw [e]; rfl
    ·refine absurd (fun i h1 h2 => ?_) h
     have := hz.out (i - N) (by omega)
     rwa [show N + (i - N) = i by omega] at this
   have hk' : k < M := by omega
   have c1 := HC2.out (N + k) (by omega)
   rw [← Nat.add_assoc] at c1
   have nb := HNB.out (N + k)
   have HV2 : Hid (x.ns.getD (N + k) 0 = x.ns.getD (N + k) 0) := rfl
   obtain ⟨v, hv⟩ : ∃ v, v = x.ns.getD (N + k) 0 := ⟨_, rfl⟩
   have HVV : Hid _ := hv
   rw [← hv] at c1 nb
   clear hv HV2
   by_cases hv0 : v = 0
   ·subst hv0
    go_wp2_with fail
    refine ⟨⟨k + 1, by omega, by go_num, fun j hj => ?_⟩, by simp [intOf]; omega⟩
    by_cases e : j = k
    ·subst e; exact HVV.out.symm
    ·exact hz.out j (by omega)
   ·have q1 : (v == 0) = false := by simpa using hv0
    have q2 : (v != 0) = true := by simp [bne, q1]
    go_wp2_with fail
    go_ret
    refine ⟨?_, HB2.out⟩
    rcases HR.out with ⟨h, e⟩ | ⟨h, e⟩
    ·exact absurd (by rw [HVV.out]; exact h (N + k) (by omega) (by omega)) hv0
    ·rw [e]; rfl
end Go.Proofs.YtjkiplndbcmmbaaGreatDoor
namespace Go.Proofs.YtjkiplndbcmmbaaGreatDoor
open Go.ChangeShapes Go.WideShapes Go.ChangeAt Go.RowKit
set_option maxRecDepth 100000
theorem tZ : Tryz.prog.cellsOf 31 = 11 := by kernel_rfl
theorem rn : Tryz.prog.cellsOf 5 = 1 := by kernel_rfl
theorem rx : Tryz.prog.cellsOf 23 = 1 := by kernel_rfl
theorem m9 : Tryz.prog.cellsOf 2 = 1 := by kernel_rfl
theorem rq : Tryz.prog.cellsOf 28 = 8 := by kernel_rfl
theorem ru : Tryz.prog.cellsOf 29 = 1 := by kernel_rfl
theorem ma : Tryz.prog.cellsOf 102 = 2 := by kernel_rfl
theorem rS {W : World} {b o : Nat} {v : Value} (h : W.cell? ⟨b, o, none⟩ = some v) : b < W.heap.size := World.block_lt_of_cell? W _ h
theorem d8 {n : Int} (h : (Lit.int .i64 n).wf = true) : -9223372036854775808 ≤ n ∧ n ≤ 9223372036854775807 := by simpa [Lit.wf, IntKind.min, IntKind.max, IntKind.signed, IntKind.bits] using h
theorem mS {H : Type} {enc : TypeId × Value → H} {W : World} {fuel : Nat} {cs : List Value} {x : DataW H × List MemPlace} (h : DataW.trod enc Tryz.prog W 0 (fun _ => true) true fuel 102 cs = some x) :
  ∃ f r, cs = [.int .i64 f, .int .i64 r] ∧ (-9223372036854775808 ≤ f ∧ f ≤ 9223372036854775807) ∧ -9223372036854775808 ≤ r ∧ r ≤ 9223372036854775807 := by
 obtain ⟨xs, n, _, rfl, hl, hlen, hf⟩ := DataW.trod_struct Tryz.underlying102 h
 rw [ma] at hl
 match cs, hl with
 | [c0, c1], _ =>
  match xs, hlen with
  | [y0, y1], _ =>
   have h0 : DataW.trod enc Tryz.prog W 0 (fun _ => true) true n 2 (([c0, c1].drop 0).take (Tryz.prog.cellsOf 2)) = some y0 := hf 0 _ rfl
   have h1 : DataW.trod enc Tryz.prog W 0 (fun _ => true) true n 2 (([c0, c1].drop 1).take (Tryz.prog.cellsOf 2)) = some y1 := hf 1 _ rfl
   rw [m9] at h0 h1
   obtain ⟨f, e0, _, w0⟩ := DataW.trod_int Tryz.underlying2 h0
   obtain ⟨r, e1, _, w1⟩ := DataW.trod_int Tryz.underlying2 h1
   simp at e0 e1
   exact ⟨f, r, by rw [e0, e1], d8 w0, d8 w1⟩
theorem jz {H : Type} {enc : TypeId × Value → H} {W : World} {fuel : Nat} {cs : List Value} {x : DataW H × List MemPlace} (h : DataW.trod enc Tryz.prog W 0 (fun _ => true) true fuel 29 cs = some x) :
  ∃ v ts, cs = [v] ∧ Tr W v ts ∧ (∀ n c, v = .slice none n c → c = 0) ∧ ((x.1 = .nil ∧ ts = []) ∨ ∃ el sp, x.1 = .slice el sp ∧ el.length = ts.length) := by
 rcases DataW.trod_slice Tryz.underlying29 h with ⟨hcs, hx⟩ | ⟨a', len, cap, elems, rest, n, _, hcs, hxx, _, hl, hm, hlen, hel, _, _⟩
 ·exact ⟨_, [], hcs, ⟨fun t ht => by simp at ht, none, 0, rfl, by simp, by omega, fun h => by simp at h⟩, (fun n c e => by cases e; rfl), Or.inl ⟨by rw [hx], rfl⟩⟩
 ·have each : ∀ i, ∃ p : Int × Int, i < len → W.cell? (a'.add (i * 2)) = some (.int .i64 p.1) ∧ W.cell? ((a'.add (i * 2)).add 1) = some (.int .i64 p.2) ∧ ((-9223372036854775808 ≤ p.1 ∧ p.1 ≤ 9223372036854775807) ∧ -9223372036854775808 ≤ p.2 ∧ p.2 ≤ 9223372036854775807) := by
   intro i
   by_cases hi : i < len
   ·have h1 := hel i hi
    rw [List.getElem?_eq_getElem (by omega), ma, Option.bind_eq_some_iff] at h1
    obtain ⟨cs', hcs', ht⟩ := h1
    obtain ⟨f, r, rfl, w⟩ := mS ht
    obtain ⟨_, _, hc⟩ := World.cells?_some hcs'
    have z0 := hc 0 (by omega)
    have z1 := hc 1 (by omega)
    refine ⟨(f, r), fun _ => ⟨?_, ?_, w⟩⟩
    ·simpa [Addr.add] using z0
    ·simpa using z1
   ·exact ⟨(0, 0), fun h => absurd h hi⟩
  obtain ⟨f, hf⟩ := Classical.skolem.1 each
  have hl2 : ((List.range len).map f).length = len := by simp
  refine ⟨_, (List.range len).map f, hcs, ⟨fun t ht => ?_, some a', cap, by rw [hl2], by omega, by unfold maxLen at hm; omega, fun h0 => ?_⟩, (fun n c e => by cases e), Or.inr ⟨_, _, by rw [hxx], by rw [hl2, List.length_map]; exact hlen⟩⟩
  ·obtain ⟨i, hi, rfl⟩ := List.mem_map.1 ht
   exact (hf i (List.mem_range.1 hi)).2.2
  rw [hl2] at h0 ⊢
  obtain ⟨b, off, spot⟩ := a'
  have hspot : spot = none := by simpa [Addr.add] using World.cell?_spot (hf 0 (by omega)).1
  subst hspot
  have hc : ∀ k, k < len → W.cell? ⟨b, off + 2 * k, none⟩ = some (.int .i64 (f k).1) ∧ W.cell? ⟨b, off + 2 * k + 1, none⟩ = some (.int .i64 (f k).2) := fun k hk => by
   have h1 := hf k hk
   rw [add_plain, add_plain, Nat.mul_comm k 2] at h1
   exact ⟨h1.1, h1.2.1⟩
  refine ⟨b, off, rfl, rS (hc 0 (by omega)).1, fun k hk => ?_⟩
  have e : ((List.range len).map f).getD k (0, 0) = f k := by simp [List.getD, hk]
  rw [e]
  exact hc k hk
theorem came_ev2 {H : Type} {enc : TypeId × Value → H} {W : World} {r : Reach} {b0 : Nat} {v : Value} {d : DataW H} {p : List MemPlace} (hv : Value.okWide Tryz.prog W r b0 31 v) (h : DataW.Trod enc Tryz.prog W 0 (fun _ => true) true 31 v d p) :
  ∃ (x : E8) (tv : Value), v = .agg (x.cells tv).toArray ∧ x.ok ∧ Tr W tv x.ts ∧ (∀ n c, tv = .slice none n c → c = 0) ∧ ∀ R : Nat, (∀ n ∈ DataW.weights Tryz.prog 31 d, n ≤ R) → x.ts.length * 16 ≤ R := by
 obtain ⟨cs, rfl, hsz⟩ := okWide_struct Tryz.underlying31 hv
 rw [tZ] at hsz
 obtain ⟨l⟩ := cs
 replace hsz : l.length = 11 := by simpa using hsz
 obtain ⟨fuel, hf0⟩ := h
 obtain ⟨xs, n, _, hdd, hl, hlen, hf⟩ := DataW.trod_struct Tryz.underlying31 hf0
 clear hf0
 match l, hsz with
 | [c0, c1, n0, n1, n2, n3, n4, n5, n6, n7, c10], _ =>
  match xs, hlen with
  | [y0, y1, y2, y3], _ =>
   have h0 : DataW.trod enc Tryz.prog W 0 (fun _ => true) true n 5 (([c0, c1, n0, n1, n2, n3, n4, n5, n6, n7, c10].drop 0).take (Tryz.prog.cellsOf 5)) = some y0 := hf 0 _ rfl
   have h1 : DataW.trod enc Tryz.prog W 0 (fun _ => true) true n 23 (([c0, c1, n0, n1, n2, n3, n4, n5, n6, n7, c10].drop 1).take (Tryz.prog.cellsOf 23)) = some y1 := hf 1 _ rfl
   have h2 : DataW.trod enc Tryz.prog W 0 (fun _ => true) true n 28 (([c0, c1, n0, n1, n2, n3, n4, n5, n6, n7, c10].drop 2).take (Tryz.prog.cellsOf 28)) = some y2 := hf 2 _ rfl
   have h3 : DataW.trod enc Tryz.prog W 0 (fun _ => true) true n 29 (([c0, c1, n0, n1, n2, n3, n4, n5, n6, n7, c10].drop 10).take (Tryz.prog.cellsOf 29)) = some y3 := hf 3 _ rfl
   rw [rn] at h0
   rw [rx] at h1
   rw [rq] at h2
   rw [ru] at h3
   obtain ⟨op, e0, _, w0⟩ := DataW.trod_int Tryz.underlying5 h0
   obtain ⟨key, e1, _, w1⟩ := DataW.trod_int Tryz.underlying23 h1
   obtain ⟨zs, m, _, _, _, hzl, hz⟩ := DataW.trod_array Tryz.underlying28 h2
   obtain ⟨tv, ts, e3, hT, hno, hwt⟩ := jz h3
   simp at e0 e1 e3
   subst e0 e1 e3
   match zs, hzl with
   | [z0, z1, z2, z3, z4, z5, z6, z7], _ =>
    have g0 := hz 0 (by omega)
    have g1 := hz 1 (by omega)
    have g2 := hz 2 (by omega)
    have g3 := hz 3 (by omega)
    have g4 := hz 4 (by omega)
    have g5 := hz 5 (by omega)
    have g6 := hz 6 (by omega)
    have g7 := hz 7 (by omega)
    rw [m9] at g0 g1 g2 g3 g4 g5 g6 g7
    obtain ⟨m0, i0, _, u0⟩ := DataW.trod_int Tryz.underlying2 g0
    obtain ⟨m1, i1, _, u1⟩ := DataW.trod_int Tryz.underlying2 g1
    obtain ⟨m2, i2, _, u2⟩ := DataW.trod_int Tryz.underlying2 g2
    obtain ⟨m3, i3, _, u3⟩ := DataW.trod_int Tryz.underlying2 g3
    obtain ⟨m4, i4, _, u4⟩ := DataW.trod_int Tryz.underlying2 g4
    obtain ⟨m5, i5, _, u5⟩ := DataW.trod_int Tryz.underlying2 g5
    obtain ⟨m6, i6, _, u6⟩ := DataW.trod_int Tryz.underlying2 g6
    obtain ⟨m7, i7, _, u7⟩ := DataW.trod_int Tryz.underlying2 g7
    simp at i0 i1 i2 i3 i4 i5 i6 i7
    subst i0 i1 i2 i3 i4 i5 i6 i7
    have o0 : 0 ≤ op ∧ op ≤ 255 := by simpa [Lit.wf, IntKind.min, IntKind.max, IntKind.signed, IntKind.bits] using w0
    have k0 : 0 ≤ key ∧ key ≤ 18446744073709551615 := by simpa [Lit.wf, IntKind.min, IntKind.max, IntKind.signed, IntKind.bits] using w1
    refine ⟨⟨op.toNat, key.toNat, [m0, m1, m2, m3, m4, m5, m6, m7], ts⟩, c10, ?_, ⟨by show op.toNat ≤ 255; omega, by show key.toNat ≤ 18446744073709551615; omega, rfl, fun n hn => ?_⟩, hT, hno, fun R hR => ?_⟩
    ·have a0 : ((op.toNat : Nat) : Int) = op := by omega
     have a1 : ((key.toNat : Nat) : Int) = key := by omega
     simp [E8.cells, a0, a1]
    ·have hn' : n = m0 ∨ n = m1 ∨ n = m2 ∨ n = m3 ∨ n = m4 ∨ n = m5 ∨ n = m6 ∨ n = m7 := by simpa using hn
     rcases hn' with rfl | rfl | rfl | rfl | rfl | rfl | rfl | rfl
     ·exact d8 u0
     ·exact d8 u1
     ·exact d8 u2
     ·exact d8 u3
     ·exact d8 u4
     ·exact d8 u5
     ·exact d8 u6
     ·exact d8 u7
    ·rcases hwt with ⟨_, rfl⟩ | ⟨el, sp, e5, e6⟩
     ·simp
     ·simp only [Prod.mk.injEq] at hdd
      have h9 := hR ((el.length + sp.length) * Tryz.prog.bytesOf 102) (by
       rw [hdd.1]
       simp [DataW.weights, Tryz.underlying31, DataW.weightsEach, e5, Tryz.underlying29])
      rw [show Tryz.prog.bytesOf 102 = 16 by kernel_rfl] at h9
      rw [← e6]
      omega
end Go.Proofs.YtjkiplndbcmmbaaGreatDoor