/- texts of the model: Ta Ba Ea Eb -/
import Derived.Test.YtjkiplndbcmmbaaGreatDoorW16
import Derived.Deep.RegionHeld3
import Derived.Deep.DeepCutAuto
import Derived.Deep.RegionLaw
import Derived.Test.YtjkiplndbcmmbaaGreatDoorW03
set_option linter.unusedVariables false
set_option linter.unusedSimpArgs false
set_option maxHeartbeats 16000000
set_option maxRecDepth 100000
namespace Go.Proofs.YtjkiplndbcmmbaaGreatDoor
open Tryz
open Go.RowKit
def I64 (n : Int) : Prop := -9223372036854775808 ≤ n ∧ n ≤ 9223372036854775807
structure Tr (w : World) (v : Value) (ts : List (Int × Int)) : Prop where
 wf : ∀ t ∈ ts, (-9223372036854775808 ≤ t.1 ∧ t.1 ≤ 9223372036854775807) ∧ -9223372036854775808 ≤ t.2 ∧ t.2 ≤ 9223372036854775807
 form : ∃ a c, v = .slice a ts.length c ∧ ts.length ≤ c ∧ c ≤ 9223372036854775807 ∧ (0 < ts.length → ∃ b off, a = some ⟨b, off, none⟩ ∧ b < w.heap.size ∧ ∀ k, k < ts.length → w.cell? ⟨b, off + 2 * k, none⟩ = some (.int .i64 (ts.getD k (0, 0)).1) ∧ w.cell? ⟨b, off + 2 * k + 1, none⟩ = some (.int .i64 (ts.getD k (0, 0)).2))
theorem Tr.step {w w' : World} {v : Value} {ts : List (Int × Int)} (h : Tr w v ts) (k : Below w.heap.size w w') : Tr w' v ts := by
 obtain ⟨hw, a, c, e, h1, h2, h3⟩ := h
 refine ⟨hw, a, c, e, h1, h2, fun h0 => ?_⟩
 obtain ⟨b, off, ea, hb, hx⟩ := h3 h0
 exact ⟨b, off, ea, Nat.lt_of_lt_of_le hb k.size, fun j hj => ⟨(k.cell (p := ⟨b, off + 2 * j, none⟩) hb).trans (hx j hj).1, (k.cell (p := ⟨b, off + 2 * j + 1, none⟩) hb).trans (hx j hj).2⟩⟩
theorem Tr.at {w : World} {a : Option Addr} {n c : Nat} {ts : List (Int × Int)} (h : Tr w (.slice a n c) ts) (k : Nat) (hk : k < n) : ∃ b off, a = some ⟨b, off, none⟩ ∧ b < w.heap.size ∧ w.cell? ⟨b, off + 2 * k, none⟩ = some (.int .i64 (ts.getD k (0, 0)).1) ∧ w.cell? ⟨b, off + 2 * k + 1, none⟩ = some (.int .i64 (ts.getD k (0, 0)).2) := by
 obtain ⟨_, a', c', e, h1, h2, h3⟩ := h
 cases e
 obtain ⟨b, off, ea, hb, hx⟩ := h3 (by omega)
 exact ⟨b, off, ea, hb, hx k hk⟩
def tcs (ts : List (Int × Int)) : List Value := ts.flatMap (fun t => [Value.int .i64 t.1, Value.int .i64 t.2])
theorem eK (ts : List (Int × Int)) : (tcs ts).length = 2 * ts.length := by
 induction ts with
 | nil => rfl
 | cons a t ih => simp [tcs] at *; omega
theorem vJ : (prog.info? 102).map (fun i => (i.zero, i.size, i.bytes)) = some (some (.agg #[.int .i64 0, .int .i64 0]), 2, 16) := by kernel_rfl
theorem fv : ∃ i, prog.info? 102 = some i ∧ i.zero = some (.agg #[.int .i64 0, .int .i64 0]) ∧ i.size = 2 ∧ i.bytes = 16 := by
 obtain ⟨i, hi, hz⟩ := Option.map_eq_some_iff.1 vJ
 simp only [Prod.mk.injEq] at hz
 exact ⟨i, hi, hz.1, hz.2.1, hz.2.2⟩
theorem eJ (ts : List (Int × Int)) : ∀ (j : Nat), j < ts.length → (tcs ts)[2 * j]? = some (.int .i64 (ts.getD j (0, 0)).1) ∧ (tcs ts)[2 * j + 1]? = some (.int .i64 (ts.getD j (0, 0)).2) := by
 induction ts with
 | nil => intro j h; simp at h
 | cons a ts ih =>
  intro j h
  cases j with
  | zero => exact ⟨rfl, rfl⟩
  | succ j =>
   have := ih j (by simpa using h)
   show (Value.int .i64 a.1 :: Value.int .i64 a.2 :: tcs ts)[2 * (j + 1)]? = _ ∧ (Value.int .i64 a.1 :: Value.int .i64 a.2 :: tcs ts)[2 * (j + 1) + 1]? = _
   rw [show 2 * (j + 1) = 2 * j + 1 + 1 by omega]
   simpa using this
structure OwnT (w : World) (B : Nat) (v : Value) (ts : List (Int × Int)) : Prop where
 wf : ∀ t ∈ ts, I64 t.1 ∧ I64 t.2
 own : w.ownsRow B 102 2 v ts.length (tcs ts)
theorem bV (w : World) (B : Nat) : OwnT w B (.slice none 0 0) [] := ⟨fun t h => (by cases h), World.ownsRow_nil _ _ _ _⟩
theorem OwnT.block {w : World} {B : Nat} {v : Value} {cs : List (Int × Int)} (h : OwnT w B v cs) : ∀ k, v.ownBlock = some k → B ≤ k := by
 obtain ⟨hl, h2⟩ := h.own
 rcases h2 with ⟨rfl, h0⟩ | ⟨g, cap, cur, rfl, hb, _⟩
 ·intro k hk; simp [Value.ownBlock] at hk
 ·intro k hk; simp [Value.ownBlock] at hk; omega
theorem OwnT.lower {w : World} {B B' : Nat} {v : Value} {cs : List (Int × Int)} (h : OwnT w B v cs) (hB : B' ≤ B) : OwnT w B' v cs := by
 refine ⟨h.wf, h.own.1, ?_⟩
 rcases h.own.2 with h2 | ⟨g, cap, cur, e, hb, r⟩
 ·exact Or.inl h2
 ·exact Or.inr ⟨g, cap, cur, e, by omega, r⟩
theorem OwnT.step {w w' : World} {B : Nat} {v : Value} {cs : List (Int × Int)} (h : OwnT w B v cs) (k : Below w.heap.size w w') : OwnT w' B v cs := by
 refine ⟨h.wf, h.own.1, ?_⟩
 rcases h.own.2 with h2 | ⟨g, cap, cur, e, hb, hg, r⟩
 ·exact Or.inl h2
 ·have hlt : g < w.heap.size := by
   rcases Nat.lt_or_ge g w.heap.size with hlt | hge
   ·exact hlt
   ·rw [Array.getElem?_eq_none hge] at hg; cases hg
  exact Or.inr ⟨g, cap, cur, e, hb, (k.block g hlt).trans hg, r⟩
theorem nu (a b : List (Int × Int)) : tcs (a ++ b) = tcs a ++ tcs b := by simp [tcs]
theorem nw {ts : List (Int × Int)} {u : Value} (h : u ∈ tcs ts) : u.oneCell' = true := by
 unfold tcs at h
 obtain ⟨t, _, ht⟩ := List.mem_flatMap.1 h
 simp at ht
 rcases ht with rfl | rfl <;> rfl
theorem OwnT.tr {w : World} {B : Nat} {v : Value} {ts : List (Int × Int)} (h : OwnT w B v ts) : Tr w v ts := by
 refine ⟨h.wf, ?_⟩
 have ho := h.own
 rcases h.own.2 with ⟨rfl, h0⟩ | ⟨g, cap, cur, rfl, hb, hg, hcap, hcm, hcs, htk⟩
 ·exact ⟨none, 0, by rw [h0], by omega, by omega, fun h => by omega⟩
 ·refine ⟨some ⟨g, 0, none⟩, cap, rfl, hcap, by unfold maxLen at hcm; omega, fun h0 => ⟨g, 0, rfl, ?_, fun k hk => ?_⟩⟩
  ·rcases Nat.lt_or_ge g w.heap.size with hlt | hge
   ·exact hlt
   ·rw [Array.getElem?_eq_none hge] at hg; cases hg
  ·have hlt1 : 2 * k + 1 < (tcs ts).length := by rw [eK]; omega
   have e1 := ho.cellAt (2 * k) (by omega)
   have e2 := ho.cellAt (2 * k + 1) (by omega)
   rw [Nat.zero_add]
   exact ⟨by rw [e1, (eJ ts k hk).1], by rw [e2, (eJ ts k hk).2]⟩
theorem wV {w : World} {y : Nat → Option Bool} {o : Oper} {a : Act} {Q : Exit → Act → World → Prop} {K : Act → World → Prop} {k0 : Prop} (hgd : Region.wanted o y = true) (s x : Operand)
  (ho : o.op = .call { callee := .builtin .append, args := #[s, x], argTypes := #[29, 29] })
  (B : Nat) (cs bs : List (Int × Int)) (v : Value) (b off c : Nat) (hs : a.eval s = v) (hx : a.eval x = .slice (some ⟨b, off, none⟩) bs.length c)
  (hown : OwnT w B v cs) (hwf : ∀ t ∈ bs, I64 t.1 ∧ I64 t.2) (hcell : ∀ k, k < bs.length → w.cell? ⟨b, off + 2 * k, none⟩ = some (.int .i64 (bs.getD k (0, 0)).1) ∧ w.cell? ⟨b, off + 2 * k + 1, none⟩ = some (.int .i64 (bs.getD k (0, 0)).2)) (hB : B ≤ w.heap.size) (hl : cs.length + bs.length ≤ 8796093022208)
  (h : ∀ v' w', OwnT w' B v' (cs ++ bs) → Below B w w' → w.grownBy w' v.ownBlock → K (a.put o.dst v') w') :
  if Region.wanted o y then o.wp prog a w K Q else k0 := by
 obtain ⟨i0, hi, hz0, hz1, hz2⟩ := fv
 rw [if_pos hgd]
 refine wp_append_own _ s x 29 ho B 102 i0 (.agg #[.int .i64 0, .int .i64 0]) 2 16 underlying29 hi hz0 hz1 hz2 rfl (by decide) v cs.length (tcs cs) hs hown.own ⟨b, off, none⟩ bs.length c (tcs bs) hx (by rw [eK]; omega) ?_ (fun u hu => nw hu) (by unfold maxLen; omega) (by omega) hB (fun v' w' g1 g2 _ => h v' w' ⟨fun t ht => ?_, ?_⟩ ((Below.refl _ _).grown g2 hB hown.block) g2)
 ·intro j u hj
  have hj' : j < (tcs bs).length := (List.getElem?_eq_some_iff.1 hj).1
  rw [eK] at hj'
  rw [Go.WideShapes.add_plain]
  have e : j = 2 * (j / 2) ∨ j = 2 * (j / 2) + 1 := by omega
  have hk := hcell (j / 2) (by omega)
  have hg := eJ bs (j / 2) (by omega)
  rcases e with e | e
  ·rw [e] at hj ⊢
   rw [hk.1, ← hg.1, hj]
  ·rw [e] at hj ⊢
   rw [← Nat.add_assoc, hk.2, ← hg.2, hj]
 ·rcases List.mem_append.1 ht with ht | ht
  ·exact hown.wf t ht
  ·exact hwf t ht
 ·rw [List.length_append, nu]
  exact g1
theorem wU {w : World} {ops : Array Oper} {rest : List Oper} {o : Oper} {a : Act} {Q : Exit → Act → World → Prop} (hgd : o.guard = none) (s x : Operand)
  (ho : o.op = .call { callee := .builtin .append, args := #[s, x], argTypes := #[29, 29] })
  (B : Nat) (cs bs : List (Int × Int)) (v : Value) (b off c : Nat) (hs : a.eval s = v) (hx : a.eval x = .slice (some ⟨b, off, none⟩) bs.length c)
  (hown : OwnT w B v cs) (hwf : ∀ t ∈ bs, I64 t.1 ∧ I64 t.2) (hcell : ∀ k, k < bs.length → w.cell? ⟨b, off + 2 * k, none⟩ = some (.int .i64 (bs.getD k (0, 0)).1) ∧ w.cell? ⟨b, off + 2 * k + 1, none⟩ = some (.int .i64 (bs.getD k (0, 0)).2)) (hB : B ≤ w.heap.size) (hl : cs.length + bs.length ≤ 8796093022208)
  (h : ∀ v' w', OwnT w' B v' (cs ++ bs) → Below B w w' → w.grownBy w' v.ownBlock → wpList prog ops Q rest (a.put o.dst v') w') :
  wpList prog ops Q (o :: rest) a w :=
 wpList_step fun K hK => wV (by simp [Region.wanted, hgd]) s x ho B cs bs v b off c hs hx hown hwf hcell hB hl (fun v' w' p q r => hK _ _ (h v' w' p q r))
theorem wW {w : World} {ops : Array Oper} {rest : List Oper} {o : Oper} {a : Act} {Q : Exit → Act → World → Prop} (hgd : o.guard = none) (s x : Operand)
  (ho : o.op = .call { callee := .builtin .append, args := #[s, x], argTypes := #[29, 29] })
  (B : Nat) (cs bs : List (Int × Int)) (v u : Value) (hs : a.eval s = v) (hx : a.eval x = u)
  (hown : OwnT w B v cs) (hu : Tr w u bs) (hno : ∀ n c, u = .slice none n c → c = 0) (hB : B ≤ w.heap.size) (hl : cs.length + bs.length ≤ 8796093022208)
  (h : ∀ v' w', OwnT w' B v' (cs ++ bs) → Below B w w' → w.grownBy w' v.ownBlock → wpList prog ops Q rest (a.put o.dst v') w') :
  wpList prog ops Q (o :: rest) a w := by
 obtain ⟨i0, hi, hz0, hz1, hz2⟩ := fv
 obtain ⟨hwf, ad, c, rfl, h1, h2, h4⟩ := hu
 by_cases h0 : bs = []
 ·subst h0
  cases ad with
  | none =>
   obtain rfl : c = 0 := hno _ _ rfl
   refine wpList_append_own_none hgd s x 29 ho B 102 i0 2 underlying29 hi v cs.length (tcs cs) hs hown.own hx ?_
   exact h v w (by simpa using hown) (Below.refl _ _) (World.grownBy.refl _ _)
  | some ad =>
   refine wpList_append_own _ hgd s x 29 ho B 102 i0 (.agg #[.int .i64 0, .int .i64 0]) 2 16 underlying29 hi hz0 hz1 hz2 rfl (by decide) v cs.length (tcs cs) hs hown.own ad 0 c [] hx rfl (fun j u hj => by simp at hj) (fun u hu => by simp at hu) (by unfold maxLen; omega) (by simp at hl; omega) hB (fun v' w' g1 g2 _ => h v' w' ⟨by simpa using hown.wf, by simpa using g1⟩ ((Below.refl _ _).grown g2 hB hown.block) g2)
 ·have hp : 0 < bs.length := List.length_pos_iff.2 h0
  obtain ⟨b, off, rfl, hb, hcell⟩ := h4 hp
  exact wU hgd s x ho B cs bs v b off c hs hx hown hwf hcell hB hl h
theorem oM (w : World) : OwnT (w.alloc (.cells #[] 102)) w.heap.size (.slice (some ⟨w.heap.size, 0, none⟩) 0 0) [] :=
 ⟨fun t h => (by cases h), World.ownsRow_made w #[] 0 (Nat.le_refl _) (by unfold maxLen; omega) rfl⟩
theorem Tr.front {w : World} {a : Option Addr} {n c : Nat} {ts ms : List (Int × Int)} (h : Tr w (.slice a n c) (ts ++ ms)) : Tr w (.slice a ts.length c) ts := by
 obtain ⟨hw, a', c', e, h1, h2, h3⟩ := h
 cases e
 rw [List.length_append] at h1 h3
 refine ⟨fun t ht => hw t (List.mem_append_left _ ht), a, c, rfl, by omega, h2, fun h0 => ?_⟩
 obtain ⟨b, off, ea, hb, hx⟩ := h3 (by omega)
 refine ⟨b, off, ea, hb, fun k hk => ?_⟩
 have := hx k (by omega)
 have e : (ts ++ ms).getD k (0, 0) = ts.getD k (0, 0) := by simp [List.getD, List.getElem?_append_left hk]
 rwa [e] at this
def wi (n l g : Int) : Bool := decide (l ≤ n ∧ n ≤ g)
theorem aB (n l g : Int) (w : World) : Calls prog 193 #[.int .i64 n, .int .i64 l, .int .i64 g] w fun e w' => e = .returned (.bool (wi n l g)) ∧ w' = w := by
 unfold wi
 by_cases h1 : l ≤ n
 ·by_cases h2 : n ≤ g
  ·rw [show decide (l ≤ n ∧ n ≤ g) = true by simp; omega]
   go_enter func193, ntmps193
   go_wp2_with fail
   go_ret
   exact ⟨rfl, rfl⟩
  ·rw [show decide (l ≤ n ∧ n ≤ g) = false by simp; omega]
   go_enter func193, ntmps193
   go_wp2_with fail
   go_ret
   exact ⟨rfl, rfl⟩
 ·rw [show decide (l ≤ n ∧ n ≤ g) = false by simp; omega]
  go_enter func193, ntmps193
  go_wp2_with fail
  go_ret
  exact ⟨rfl, rfl⟩
def tf (ts : List (Int × Int)) (i : Nat) : Int := (ts.getD i (0, 0)).1
def tr (ts : List (Int × Int)) (i : Nat) : Int := (ts.getD i (0, 0)).2
def gdb (ts : List (Int × Int)) (i : Nat) : Bool := decide ((i = 0 → tf ts i = 0) ∧ (0 < i → tf ts (i - 1) < tf ts i) ∧ tf ts i ≤ 10000000000000 ∧ 0 ≤ tr ts i ∧ tr ts i ≤ 1000000000)
def terr (ts : List (Int × Int)) : Int := if 8 < ts.length then 2 else if ts.length = 0 then 3 else if (List.range ts.length).all (gdb ts) then 0 else 3
theorem oZ {ts : List (Int × Int)} (h : 8 < ts.length) : terr ts = 2 := by unfold terr; rw [if_pos h]
theorem p4 {ts : List (Int × Int)} (h : ts.length = 0) : terr ts = 3 := by unfold terr; rw [if_neg (by omega), if_pos h]
theorem l9 {ts : List (Int × Int)} (h : ¬ 8 < ts.length) {i : Nat} (hi : i < ts.length) (hb : gdb ts i = false) : terr ts = 3 := by
 unfold terr
 rw [if_neg h, if_neg (by omega), if_neg]
 intro e
 have := List.all_eq_true.1 e i (List.mem_range.2 hi)
 rw [hb] at this
 cases this
theorem ux {ts : List (Int × Int)} (h : ¬ 8 < ts.length) (h0 : ts.length ≠ 0) (hg : ∀ i, i < ts.length → gdb ts i = true) : terr ts = 0 := by
 unfold terr
 rw [if_neg h, if_neg h0, if_pos]
 exact List.all_eq_true.2 (fun i hi => hg i (List.mem_range.1 hi))
theorem Tr.cells {w : World} {a : Option Addr} {n c : Nat} {ts : List (Int × Int)} (h : Tr w (.slice a n c) ts) (k : Nat) (hk : k < n) : ∃ b off, a = some ⟨b, off, none⟩ ∧ w.cell? ⟨b, off + k * 2, none⟩ = some (.int .i64 (tf ts k)) ∧ w.cell? ⟨b, off + k * 2 + 1, none⟩ = some (.int .i64 (tr ts k)) := by
 obtain ⟨b, off, e, _, h1, h2⟩ := h.at k hk
 rw [Nat.mul_comm 2 k] at h1 h2
 exact ⟨b, off, e, h1, h2⟩
theorem br {n l g : Int} (h1 : l ≤ n) (h2 : n ≤ g) : wi n l g = true := decide_eq_true ⟨h1, h2⟩
theorem jb {n l g : Int} (h : ¬ (l ≤ n ∧ n ≤ g)) : wi n l g = false := decide_eq_false h
def cdg (i : Nat) : Nat := [2, 2, 0, 3].getD i 0
theorem dw (i : Nat) : cdg i ≤ 3 := by
 unfold cdg
 match i with
 | 0 => decide
 | 1 => decide
 | 2 => decide
 | 3 => decide
 | n + 4 => simp
structure Cu (w : World) : Prop where
 row : ∀ i, i < 4 → w.cell? ⟨0, i * 2 + 1, none⟩ = some (.int .i64 ((cdg i : Nat) : Int))
theorem Cu.lt {w : World} (h : Cu w) : 0 < w.heap.size := World.block_lt_of_cell? w _ (h.row 0 (by omega))
theorem Cu.step {w w' : World} (h : Cu w) (k : Below w.heap.size w w') : Cu w' := ⟨fun i hi => (k.cell (p := ⟨0, i * 2 + 1, none⟩) h.lt).trans (h.row i hi)⟩
theorem Cu.alloc {w : World} (h : Cu w) (o : Obj) : Cu (w.alloc o) := h.step ((Below.refl _ _).alloc (Nat.le_refl _) o)
theorem Cu.drew {w : World} (h : Cu w) : Cu w.drew := h.step ((Below.refl _ _).drew)
theorem Cu.upd {w w' : World} {p : Nat} (h : Cu w) (k : Upd p w w') (hp : 0 ≠ p) : Cu w' := ⟨fun i hi => (World.cell?_of_block (w := w) (w' := w') (a := ⟨0, i * 2 + 1, none⟩) (k.block 0 hp)).trans (h.row i hi)⟩
theorem cT (n : Int) (w : World) : Calls prog 130 #[.int .i64 n] w fun e w' => e = .returned (.bool (wi n (0) 3)) ∧ w' = w := by
 unfold wi
 by_cases h1 : 0 ≤ n
 ·by_cases h2 : n < 4
  ·rw [show decide (0 ≤ n ∧ n ≤ 3) = true by simp; omega]
   go_enter func130, ntmps130
   go_wp2_with fail
   go_ret
   exact ⟨rfl, rfl⟩
  ·rw [show decide (0 ≤ n ∧ n ≤ 3) = false by simp; omega]
   go_enter func130, ntmps130
   go_wp2_with fail
   go_ret
   exact ⟨rfl, rfl⟩
 ·rw [show decide (0 ≤ n ∧ n ≤ 3) = false by simp; omega]
  go_enter func130, ntmps130
  go_wp2_with fail
  go_ret
  exact ⟨rfl, rfl⟩
theorem eq (n : Int) (w : World) : Calls prog 184 #[.int .i64 n] w fun e w' => e = .returned (.bool (wi n (-10000000000000) 10000000000000)) ∧ w' = w := by
 unfold wi
 by_cases h1 : -10000000000000 ≤ n
 ·by_cases h2 : n ≤ 10000000000000
  ·rw [show decide (-10000000000000 ≤ n ∧ n ≤ 10000000000000) = true by simp; omega]
   go_enter func184, ntmps184
   go_wp2_with fail
   go_ret
   exact ⟨rfl, rfl⟩
  ·rw [show decide (-10000000000000 ≤ n ∧ n ≤ 10000000000000) = false by simp; omega]
   go_enter func184, ntmps184
   go_wp2_with fail
   go_ret
   exact ⟨rfl, rfl⟩
 ·rw [show decide (-10000000000000 ≤ n ∧ n ≤ 10000000000000) = false by simp; omega]
  go_enter func184, ntmps184
  go_wp2_with fail
  go_ret
  exact ⟨rfl, rfl⟩
theorem gO (i : Nat) (w : World) (T : Cu w) (hi : i < 4) :
  Calls prog 76 #[.int .i64 i] w fun e w' => e = .returned (.tuple #[.int .i64 (cdg i), .int .i64 0]) ∧ w' = w := by
 have c1 := T.row i hi
 have hw := br (n := (i : Int)) (l := 0) (g := 3) (by omega) (by omega)
 clear T
 generalize cdg i = n at *
 go_enter func76, ntmps76
 go_wp2_with fail
 refine (cT i _).mono ?_
 rintro e w1 ⟨rfl, hq⟩
 obtain rfl := hq.symm
 rw [hw]
 go_wp2_with fail
 go_ret2
 exact ⟨rfl, rfl⟩
theorem nW (c : Int) (w : World) (hc : ¬ (0 ≤ c ∧ c ≤ 3)) :
  Calls prog 76 #[.int .i64 c] w fun e w' => e = .returned (.tuple #[.int .i64 0, .int .i64 1]) ∧ w' = w := by
 have hw := jb hc
 clear hc
 go_enter func76, ntmps76
 go_wp2_with fail
 refine (cT c _).mono ?_
 rintro e w1 ⟨rfl, hq⟩
 obtain rfl := hq.symm
 rw [hw]
 go_wp2_with fail
 go_ret2
 exact ⟨rfl, rfl⟩
def mform (c n : Int) : Bool := wi c 0 3 && wi n (-10000000000000) 10000000000000
theorem fP (c n : Int) (w : World) : Calls prog 152 #[.agg #[.int .i64 c, .int .i64 n]] w fun e w' => e = .returned (.int .i64 (if mform c n then 0 else 3)) ∧ Below w.heap.size w w' := by
 have B0 : Hid _ := (Below.refl w.heap.size w).alloc (Nat.le_refl _) (.cells #[.int .i64 c, .int .i64 n] 195)
 unfold mform
 by_cases h1 : wi c 0 3 = true
 ·by_cases h2 : wi n (-10000000000000) 10000000000000 = true
  ·rw [h1, h2]
   go_enter func152, ntmps152
   go_wp2_with fail
   refine (cT c _).mono ?_
   rintro e w1 ⟨rfl, hq⟩
   obtain rfl := hq.symm
   rw [h1]
   go_wp2_with fail
   refine (eq n _).mono ?_
   rintro e w1 ⟨rfl, hq⟩
   obtain rfl := hq.symm
   rw [h2]
   go_wp2_with fail
   go_ret
   exact ⟨rfl, B0.out⟩
  ·rw [h1, Bool.eq_false_iff.2 h2]
   replace h2 : wi n (-10000000000000) 10000000000000 = false := by simpa using h2
   go_enter func152, ntmps152
   go_wp2_with fail
   refine (cT c _).mono ?_
   rintro e w1 ⟨rfl, hq⟩
   obtain rfl := hq.symm
   rw [h1]
   go_wp2_with fail
   refine (eq n _).mono ?_
   rintro e w1 ⟨rfl, hq⟩
   obtain rfl := hq.symm
   rw [h2]
   go_wp2_with fail
   go_ret
   exact ⟨rfl, B0.out⟩
 ·rw [Bool.eq_false_iff.2 h1]
  replace h1 : wi c 0 3 = false := by simpa using h1
  go_enter func152, ntmps152
  go_wp2_with fail
  refine (cT c _).mono ?_
  rintro e w1 ⟨rfl, hq⟩
  obtain rfl := hq.symm
  rw [h1]
  go_wp2_with fail
  go_ret
  exact ⟨rfl, B0.out⟩
def mcl (c n : Int) : List Value := [.int .i64 c, .int .i64 n]
theorem cS (c n : Int) : ∀ v ∈ mcl c n, v.oneCell' = true := by intro v hv; simp [mcl] at hv; rcases hv with rfl | rfl <;> rfl
theorem bR : (prog.info? 195).map (·.size) = some 2 := by kernel_rfl
theorem gD (c n : Int) (w : World) (h : wi n (-10000000000000) 10000000000000 = true) :
  Calls prog 162 #[.int .i64 c, .int .i64 n] w fun e w' => e = .returned (.tuple #[.agg (mcl c n).toArray, .int .i64 0]) ∧ Below w.heap.size w w' := by
 have V0 : Hid _ := aa w (mcl 0 0) 195
 have B0 : Hid _ := (Below.refl w.heap.size w).alloc (Nat.le_refl _) (.cells (mcl 0 0).toArray 195)
 go_enter func162, ntmps162
 go_wp2_with fail
 refine (eq n _).mono ?_
 rintro e w1 ⟨rfl, hq⟩
 obtain rfl := hq.symm
 rw [h]
 go_wp2_with (refine stA rfl 195 _ _ rfl w.heap.size (by rfl) (mcl 0 0) (mcl c n) (by rfl) 195 V0.out bR rfl (cS c n) ?_; intro w2 V2 U2)
 have hld := run_loadVar_row (P := prog) w2 w.heap.size 195 195 _ (0, 0) _ V2.blk underlying195 rfl bR
 exact bodyPost_ret (v := .tuple #[.agg (mcl c n).toArray, .int .i64 0]) (by simp [results, results162, asAddr, hld]) rfl ⟨rfl, U2.bel B0.out (Nat.le_refl _)⟩
theorem iJ (c n : Int) (w : World) (h : wi n (-10000000000000) 10000000000000 = false) :
  Calls prog 162 #[.int .i64 c, .int .i64 n] w fun e w' => e = .returned (.tuple #[.agg (mcl 0 0).toArray, .int .i64 4]) ∧ Below w.heap.size w w' := by
 have V0 : Hid _ := aa w (mcl 0 0) 195
 have B0 : Hid _ := (Below.refl w.heap.size w).alloc (Nat.le_refl _) (.cells (mcl 0 0).toArray 195)
 go_enter func162, ntmps162
 go_wp2_with fail
 refine (eq n _).mono ?_
 rintro e w1 ⟨rfl, hq⟩
 obtain rfl := hq.symm
 rw [h]
 go_wp2_with (refine stA rfl 195 _ _ rfl w.heap.size (by rfl) (mcl 0 0) (mcl 0 0) (by rfl) 195 V0.out bR rfl (cS 0 0) ?_; intro w2 V2 U2)
 have hld := run_loadVar_row (P := prog) w2 w.heap.size 195 195 _ (0, 0) _ V2.blk underlying195 rfl bR
 exact bodyPost_ret (v := .tuple #[.agg (mcl 0 0).toArray, .int .i64 4]) (by simp [results, results162, asAddr, hld]) rfl ⟨rfl, U2.bel B0.out (Nat.le_refl _)⟩
def ct : List Nat := [0, 8, 2, 1, 2, 2, 3, 3, 2, 4, 3, 3, 4, 1, 3, 1]
structure Tc (w : World) : Prop where
 row : ∀ i, i < 16 → w.cell? ⟨1, i, none⟩ = some (.int .i64 ((ct.getD i 0 : Nat) : Int))
theorem Tc.lt {w : World} (h : Tc w) : 1 < w.heap.size := World.block_lt_of_cell? w _ (h.row 0 (by omega))
theorem Tc.step {w w' : World} (h : Tc w) {B : Nat} (k : Below B w w') (hB : 1 + 1 ≤ B) : Tc w' := ⟨fun i hi => (k.cell (p := ⟨1, i, none⟩) (by show 1 < B; omega)).trans (h.row i hi)⟩
theorem xz (i : Nat) : ct.getD i 0 ≤ 8 := by
 by_cases h : i < 16
 ·have : ∀ j : Fin 16, ct.getD j.val 0 ≤ 8 := by decide
  exact this ⟨i, h⟩
 ·simp [ct, List.getD, List.getElem?_eq_none (show ([0, 8, 2, 1, 2, 2, 3, 3, 2, 4, 3, 3, 4, 1, 3, 1] : List Nat).length ≤ i by simp; omega)]
def ec (op key : Nat) (n0 n1 n2 n3 n4 n5 n6 n7 : Int) (tv : Value) : Array Value := #[.int .u8 op, .int .u64 key, .int .i64 n0, .int .i64 n1, .int .i64 n2, .int .i64 n3, .int .i64 n4, .int .i64 n5, .int .i64 n6, .int .i64 n7, tv]
theorem iP (op : Nat) (w : World) (T : Tc w) (h1 : 1 ≤ op) (h2 : op ≤ 15) :
  Calls prog 107 #[.int .u8 op] w fun e w' => e = .returned (.tuple #[.int .i64 ((ct.getD op 0 : Nat) : Int), .int .i64 0]) ∧ w' = w := by
 have c1 := T.row op (by omega)
 clear T
 generalize ct.getD op 0 = n at *
 go_enter func107, ntmps107
 go_wp2_with fail
 go_ret2
 exact ⟨rfl, rfl⟩
theorem qc (op : Nat) (w : World) (h : op < 1 ∨ 15 < op) (h2 : op ≤ 255) :
  Calls prog 107 #[.int .u8 op] w fun e w' => e = .returned (.tuple #[.int .i64 0, .int .i64 1]) ∧ w' = w := by
 rcases h with h | h
 ·obtain rfl : op = 0 := by omega
  rw [show ((0 : Nat) : Int) = 0 from rfl]
  go_enter func107, ntmps107
  go_wp2_with fail
  go_ret2
  exact ⟨rfl, rfl⟩
 ·go_enter func107, ntmps107
  go_wp2_with fail
  go_ret2
  exact ⟨rfl, rfl⟩
def most (op : Nat) : Nat := if op = 1 then 8 else 0
theorem n8 (op : Nat) (w : World) (h2 : op ≤ 255) :
  Calls prog 108 #[.int .u8 op] w fun e w' => e = .returned (.int .i64 ((most op : Nat) : Int)) ∧ w' = w := by
 unfold most
 by_cases h : op = 1
 ·subst h
  rw [show ((1 : Nat) : Int) = 1 from rfl]
  go_enter func108, ntmps108
  go_wp2_with fail
  go_ret
  exact ⟨rfl, rfl⟩
 ·have h3 : ¬ ((op : Int) = 1) := by omega
  rw [if_neg h]
  go_enter func108, ntmps108
  go_wp2_with fail
  go_ret
  exact ⟨rfl, rfl⟩
structure E8 where
 op : Nat
 key : Nat
 ns : List Int
 ts : List (Int × Int)
structure E8.form (x : E8) : Prop where
 lo : 1 ≤ x.op
 hi : x.op ≤ 15
 tiers : x.ts.length ≤ most x.op
 zero : ∀ i, ct.getD x.op 0 ≤ i → i < 8 → x.ns.getD i 0 = 0
structure E8.ok (x : E8) : Prop where
 op : x.op ≤ 255
 key : x.key ≤ 18446744073709551615
 len : x.ns.length = 8
 ns : ∀ n ∈ x.ns, -9223372036854775808 ≤ n ∧ n ≤ 9223372036854775807
def E8.cells (x : E8) (tv : Value) : List Value := [.int .u8 (x.op : Int), .int .u64 (x.key : Int)] ++ x.ns.map (fun n => Value.int .i64 n) ++ [tv]
theorem E8.c0 (x : E8) (tv : Value) : (x.cells tv)[0]? = some (.int .u8 (x.op : Int)) := rfl
theorem E8.c1 (x : E8) (tv : Value) : (x.cells tv)[1]? = some (.int .u64 (x.key : Int)) := rfl
theorem E8.cn {x : E8} (h : x.ok) (tv : Value) (i : Nat) (hi : i < 8) : (x.cells tv)[2 + i]? = some (.int .i64 (x.ns.getD i 0)) := by
 have hl : i < x.ns.length := by rw [h.len]; exact hi
 simp [E8.cells, List.getElem?_append, Nat.add_comm 2 i, hl]
theorem E8.ctv {x : E8} (h : x.ok) (tv : Value) : (x.cells tv)[10]? = some tv := by
 simp [E8.cells, h.len]
theorem E8.nbd {x : E8} (h : x.ok) (i : Nat) : -9223372036854775808 ≤ x.ns.getD i 0 ∧ x.ns.getD i 0 ≤ 9223372036854775807 := by
 by_cases hi : i < x.ns.length
 ·exact h.ns _ (by simp [hi])
 ·simp [List.getD, List.getElem?_eq_none (Nat.le_of_not_lt hi)]
def zeros (x : E8) : Prop := ∀ i, ct.getD x.op 0 ≤ i → i < 8 → x.ns.getD i 0 = 0
theorem kf (x : E8) (tv : Value) (w : World) (hx : x.ok) (T : Tc w) (R : Tr w tv x.ts) (f1 : 1 ≤ x.op) (f2 : x.op ≤ 15) (f3 : x.ts.length ≤ most x.op) (b : Int) (hb : (zeros x ∧ b = 0) ∨ (¬ zeros x ∧ b = 3)) :
  Calls prog 71 #[.agg (x.cells tv).toArray] w fun e w' => e = .returned (.int .i64 b) ∧ Below w.heap.size w w' := by
 have V := aa w (x.cells tv) 31
 have y0 := V.cell 0 (x.c0 tv)
 have y10 := V.cell 10 (E8.ctv hx tv)
 have HV : Hid _ := V
 obtain ⟨ta, tc, rfl, ht1, ht2⟩ : ∃ a c, tv = .slice a x.ts.length c ∧ x.ts.length ≤ c ∧ c ≤ 9223372036854775807 := by obtain ⟨_, a, c, e, h1, h2, _⟩ := R; exact ⟨a, c, e, h1, h2⟩
 have HB : Hid _ := (Below.refl w.heap.size w).alloc (Nat.le_refl _) (.cells (x.cells (.slice ta x.ts.length tc)).toArray 31)
 have hT : Hid _ := T.step HB.out (by have := T.lt; omega)
 have m8 : most x.op ≤ 8 := by unfold most; split <;> omega
 have cle := xz x.op
 clear V T R
 generalize x.ts.length = tn at *
 unfold zeros at hb
 have HC : Hid (∀ i, i < 8 → (w.alloc (.cells (x.cells (.slice ta tn tc)).toArray 31)).cell? ⟨w.heap.size, 2 + i, none⟩ = some (.int .i64 (x.ns.getD i 0))) := fun i h2 => HV.out.cell (2 + i) (E8.cn hx _ i h2)
 have HNB : Hid (∀ i, -9223372036854775808 ≤ x.ns.getD i 0 ∧ x.ns.getD i 0 ≤ 9223372036854775807) := fun i => E8.nbd hx i
 obtain ⟨op, hop⟩ : ∃ op, op = x.op := ⟨_, rfl⟩
 rw [← hop] at y0 f1 f2 f3 hb m8 cle
 obtain ⟨N, hN⟩ : ∃ N, N = ct.getD op 0 := ⟨_, rfl⟩
 have HN : Hid _ := hN
 rw [← hN] at cle hb
 have HR : Hid _ := hb
 obtain ⟨ms, hms⟩ : ∃ ms, ms = most op := ⟨_, rfl⟩
 have HM : Hid _ := hms
 rw [← hms] at f3 m8
 have dm : decide (ms < tn) = false := decide_eq_false (by omega)
 clear hop hN hx hms hb
 go_enter func71, ntmps71
 go_wp2_with fail
 generalize w.alloc (.cells (x.cells (.slice ta tn tc)).toArray 31) = w1 at *
 refine (iP op _ hT.out f1 f2).mono ?_
 rintro e w2 ⟨rfl, rfl⟩
 rw [← HN.out]
 go_wp2_with fail
 go_region_held3 (fun w' => w'.cell? ⟨w.heap.size, 0, none⟩ = some (.int .u8 (op : Int)) ∧ w'.cell? ⟨w.heap.size, 10, none⟩ = some (.slice ta tn tc))
  (first | exact ⟨y0, y10⟩)
  (first | (go_at_call 108; refine (n8 op _ (by omega)).mono ?_; rintro e w4 ⟨rfl, rfl⟩; rw [← HM.out]))
 have HC2 : Hid (∀ i, i < 8 → w2.drew.cell? ⟨w.heap.size, 2 + i, none⟩ = some (.int .i64 (x.ns.getD i 0))) := HC.out
 have HB2 : Hid _ := HB.out.drew
 clear y0 y10 HC HB hT HV
 generalize w2.drew = w3 at *
 by_cases h8 : N = 8
 ·subst h8
  rw [show ((8 : Nat) : Int) = 8 from rfl]
  go_wp2_with fail
  go_loop [28] (fun i => i = .int .i64 0) (fun _ => 0)
  case atStart => rfl
  case round =>
   subst hrel
   go_wp2_with fail
   go_ret
   refine ⟨?_, HB2.out⟩
   rcases HR.out with ⟨_, e⟩ | ⟨h, e⟩
   ·rw [e]; rfl
   ·exact absurd (fun i h1 h2 => by omega) h
 ·have n1 : ¬ (8 = N) := by omega
  have n2 : (N : Int) ≤ 8 := by omega
  go_wp2_with fail
  obtain ⟨M, hM⟩ : ∃ M, M = 8 - N := ⟨_, rfl⟩
  have HM2 : Hid _ := hM
  rw [← hM]
  have hMN : M + N = 8 := by omega
  clear hM
  go_loop [28] (fun i => ∃ k : Nat, k ≤ M ∧ i = .int .i64 k ∧ Hid (∀ j, j < k → x.ns.getD (N + j) 0 = 0)) (fun i => M - (intOf i).toNat)
  case atStart => exact ⟨0, by omega, rfl, fun j hj => by omega⟩
  case round =>
   obtain ⟨k, hk, rfl, hz⟩ := hrel
   by_cases hkM : k = M
   ·subst hkM
    go_wp2_with fail
    go_ret
    refine ⟨?_, HB2.out⟩
    rcases HR.out with ⟨_, e⟩ | ⟨h, e⟩
    ·rw [e]; rfl
    ·refine absurd (fun i h1 h2 => ?_) h
     have := hz.out (i - N) (by omega)
     rwa [show N + (i - N) = i by omega] at this
   have hk' : k < M := by omega
   have c1 := HC2.out (N + k) (by omega)
   rw [← Nat.add_assoc] at c1
   have nb := HNB.out (N + k)
   have HV2 : Hid (x.ns.getD (N + k) 0 = x.ns.getD (N + k) 0) := rfl
   obtain ⟨v, hv⟩ : ∃ v, v = x.ns.getD (N + k) 0 := ⟨_, rfl⟩
   have HVV : Hid _ := hv
   rw [← hv] at c1 nb
   clear hv HV2
   by_cases hv0 : v = 0
   ·subst hv0
    go_wp2_with fail
    refine ⟨⟨k + 1, by omega, by go_num, fun j hj => ?_⟩, by simp [intOf]; omega⟩
    by_cases e : j = k
    ·subst e; exact HVV.out.symm
    ·exact hz.out j (by omega)
   ·have q1 : (v == 0) = false := by simpa using hv0
    have q2 : (v != 0) = true := by simp [bne, q1]
    go_wp2_with fail
    go_ret
    refine ⟨?_, HB2.out⟩
    rcases HR.out with ⟨h, e⟩ | ⟨h, e⟩
    ·exact absurd (by rw [HVV.out]; exact h (N + k) (by omega) (by omega)) hv0
    ·rw [e]; rfl
end Go.Proofs.YtjkiplndbcmmbaaGreatDoor