/- texts of the model: Mob Moc -/
import Derived.Test.YtjkiplndbcmmbaaGreatDoorW18
import Derived.Test.YtjkiplndbcmmbaaGreatDoorW26
import Derived.Test.YtjkiplndbcmmbaaGreatDoorW29
import Derived.DeepKeys4
import Derived.Deep.DeepCutAuto
import Derived.Laws.Shifts
import Derived.Laws.Entries
set_option linter.unusedVariables false
set_option linter.unusedSimpArgs false
set_option maxHeartbeats 16000000
set_option maxRecDepth 100000
namespace Go.Proofs.YtjkiplndbcmmbaaGreatDoor
open Tryz
open Go.RowKit Go.Maps
def KI : KK Int where
 kt := 2
 kv := fun n => .int .i64 n
 kl := fun n => .int .i64 n
 ok := I64
 keyed := int_keyed underlying2
 key := fun a h => keyOf_int_mk underlying2 (WalkArith.wf_i64 h)
 inj := fun a b h => by injection h
theorem wI {n : Nat} (h : n < 18446744073709551616) : (Lit.int .u64 (n : Int)).wf = true := by
 simp [Lit.wf, IntKind.min, IntKind.max, IntKind.signed, IntKind.bits]
 omega
def KU : KK Nat where
 kt := 23
 kv := fun n => .int .u64 (n : Int)
 kl := fun n => .int .u64 (n : Int)
 ok := fun n => n < 18446744073709551616
 keyed := int_keyed underlying23
 key := fun a h => keyOf_int_mk underlying23 (wI h)
 inj := fun a b h => by injection h with h h1; omega
theorem rX : prog.types.size = 301 := by kernel_rfl
def kr (p : Int × Int) : Value := .agg #[.int .i64 p.1, .int .i64 p.2]
def lr (p : Int × Int) : Lit := .string (keyBytes [.int .i64 p.1, .int .i64 p.2])
theorem vQ : Keyed prog 109 := Keyed.of_law (deep_law_laid kC (m := 2) (by omega) (by rw [rX]; decide) (by kernel_rfl) (by kernel_rfl))
theorem vT {p : Int × Int} (h : I64 p.1 ∧ I64 p.2) : keyOf prog 109 (kr p) = some (lr p) := by
 have w1 : (Lit.int .i64 p.1).wf = true := WalkArith.wf_i64 h.1
 have w2 : (Lit.int .i64 p.2).wf = true := WalkArith.wf_i64 h.2
 have hk : prog.keyType 109 = true := by kernel_rfl
 have hc : prog.cellsOf 109 = 2 := by kernel_rfl
 have hf : (kr p).formed prog 109 = true := by
  simp [Value.formed, kr, underlying109, hc]
 obtain ⟨n, hn⟩ : ∃ n, prog.types.size + 1 = n + 2 := by
  have : 1 ≤ prog.types.size := by rw [rX]; omega
  exact ⟨prog.types.size - 1, by omega⟩
 have hl : prog.keyLits (prog.types.size + 1) 109 [.int .i64 p.1, .int .i64 p.2] = some [.int .i64 p.1, .int .i64 p.2] := by
  rw [hn]
  have c3 : prog.cellsOf 3 = 1 := by kernel_rfl
  simp [Program.keyLits, underlying109, underlying3, hc, c3, w1, w2, List.range, List.range.loop]
 have hu := underlying109
 unfold keyOf lr
 rw [hu]
 simp only [hk, hf, Bool.and_self, if_true]
 simp only [kr, Value.cells] at hl ⊢
 rw [hl]
 rfl
def KR : KK (Int × Int) where
 kt := 109
 kv := kr
 kl := lr
 ok := fun p => I64 p.1 ∧ I64 p.2
 keyed := vQ
 key := fun a h => vT h
 inj := fun a b h => by
  unfold kr at h
  injection h with h
  simp only [Array.mk.injEq, List.cons.injEq, Value.int.injEq, true_and, and_true] at h
  exact Prod.ext h.1 h.2
def encI (n : Int) : Value := .int .i64 n
def encS (_ : Unit) : Value := .agg #[]
structure PA where
 id : Int
 prod : Int
 cur : Int
 kind : Int
 opn : Bool
 bal : Int
 held : Int
 acc : Int
 hs : List (Int × Int)
def PA.told (a : PA) : List Value := [.int .i64 a.id, .int .i64 a.prod, .int .i64 a.cur, .int .i64 a.kind, .bool a.opn, .int .i64 a.bal, .int .i64 a.held, .int .i64 a.acc]
def PA.cells (a : PA) (hb : Nat) : List Value := [.int .i64 a.id, .int .i64 a.prod, .int .i64 a.cur, .int .i64 a.kind, .bool a.opn, .int .i64 a.bal, .int .i64 a.held, .int .i64 a.acc, .map (some hb)]
structure PA.wf (a : PA) : Prop where
 id : 1 ≤ a.id ∧ a.id ≤ 1000000000
 prod : 1 ≤ a.prod ∧ a.prod ≤ 1000000000
 cur : 0 ≤ a.cur ∧ a.cur ≤ 3
 kind : 1 ≤ a.kind ∧ a.kind ≤ 2
 bal : -10000000000000 ≤ a.bal ∧ a.bal ≤ 10000000000000
 held : 0 ≤ a.held ∧ a.held ≤ 20000000000000
 acc : 0 ≤ a.acc ∧ a.acc ≤ 1000000000000000000
 hs : a.hs.Pairwise fun p q => p.1 ≠ q.1
 hl : a.hs.length ≤ 64
 hv : ∀ p ∈ a.hs, (1 ≤ p.1 ∧ p.1 ≤ 1000000000) ∧ 1 ≤ p.2 ∧ p.2 ≤ 10000000000000
 sum : a.held = (a.hs.map (·.2)).foldr (· + ·) 0
structure PM where
 day : Int
 vs : List PV
 al : List PA
 rates : List ((Int × Int) × Int)
 b : Int → Int → Int
 n : Int
 keys : List (Nat × Unit)
 uw : Bool
 ra : Int
 rs : Int
 seq : Int
structure PM.wf (M : PM) : Prop where
 day : 1 ≤ M.day ∧ M.day ≤ 3652059
 acs : ∀ a ∈ M.al, a.wf
 sort : M.al.Pairwise fun a b => a.id < b.id
 len : M.al.length ≤ 256
 rats : ∀ p ∈ M.rates, (0 ≤ p.1.1 ∧ p.1.1 ≤ 3) ∧ (0 ≤ p.1.2 ∧ p.1.2 ≤ 3) ∧ 1 ≤ p.2 ∧ p.2 ≤ 1000000000000
 seq : 0 ≤ M.seq ∧ M.seq ≤ 1000000000000000
 run : I64 M.ra ∧ I64 M.rs
 adds : ∀ (k : Nat) x, M.vs[k]? = some x → addE (M.vs.take k) x = 0
theorem vN : (prog.info? 81).map (fun i => (i.zero, i.size, i.bytes)) = some (some (.pointer none), 1, 8) := by kernel_rfl
def ptrE (p : Nat) : List Value := [.pointer (some ⟨p, 0, none⟩)]
def KP : Kd Nat where
 T := 81
 S := 93
 k := 1
 bt := 8
 enc := ptrE
 info := by
  obtain ⟨i, hi, hz⟩ := Option.map_eq_some_iff.1 vN
  simp only [Prod.mk.injEq] at hz
  exact ⟨i, _, hi, hz.1, hz.2.1, hz.2.2, rfl⟩
 und := underlying93
 pos := by decide
 len := fun _ => rfl
 one := fun x v h => by simp [ptrE] at h; subst h; rfl
structure FB where
 pm : Nat
 pc : Nat
 bm : Nat
 pl : Nat
 ml : Nat
 rm : Nat
 km : Nat
 sv : Value
 ab : List (Nat × Nat)
structure PM.cnt (M : PM) : Prop where
 rat : (M.rates.length : Int) ≤ M.seq
 key : (M.keys.length : Int) ≤ M.seq
 ent : 0 ≤ M.n ∧ M.n ≤ 2 * M.seq
 seq : 0 ≤ M.seq ∧ M.seq ≤ 1000000000
def mcells (F : FB) (M : PM) : List Value := [.int .i64 M.day, .pointer (some ⟨F.pc, 0, none⟩), F.sv, .map (some F.rm), .pointer (some ⟨F.pl, 0, none⟩), .map (some F.km), .bool M.uw, .int .i64 M.ra, .int .i64 M.rs, .int .i64 M.seq]
def FB.maps (F : FB) : List Nat := F.bm :: F.ml :: F.rm :: F.km :: F.ab.map (·.2)
structure MD (w : World) (B : Nat) (F : FB) (M : PM) : Prop where
 va : VA w F.pm (mcells F M) 100
 cat : ∃ S, Cat w F.pc B S M.vs
 cbm : ∃ sv, VA w F.pc [.map (some F.bm), sv] 154
 led : Led w F.pl F.ml M.b M.n
 rts : AM KR encI w F.rm M.rates
 kys : AM KU encS w F.km M.keys
 row : Own KP w B F.sv (F.ab.map (·.1))
 len : F.ab.length = M.al.length
 acs : ∀ (i : Nat) a x, M.al[i]? = some a → F.ab[i]? = some x → VA w x.1 (a.cells x.2) 85 ∧ AM KI encI w x.2 a.hs
 low : B ≤ F.pm ∧ B ≤ F.pl ∧ B ≤ F.ml ∧ B ≤ F.rm ∧ B ≤ F.km ∧ ∀ x ∈ F.ab, B ≤ x.1 ∧ B ≤ x.2
 mps : F.maps.Nodup
 abs : (F.ab.map (·.1)).Nodup
 wf : M.wf
theorem MD.step {w w' : World} {B : Nat} {F : FB} {M : PM} (h : MD w B F M) (k : Below w.heap.size w w') : MD w' B F M := by
 obtain ⟨S, hC⟩ := h.cat
 obtain ⟨sv, hV⟩ := h.cbm
 exact ⟨h.va.step k, ⟨S, hC.step k⟩, ⟨sv, hV.step k⟩, h.led.step k, h.rts.step k, h.kys.step k, h.row.step k, h.len, fun i a x h1 h2 => ⟨(h.acs i a x h1 h2).1.step k, (h.acs i a x h1 h2).2.step k⟩, h.low, h.mps, h.abs, h.wf⟩
theorem MD.lt {w : World} {B : Nat} {F : FB} {M : PM} (h : MD w B F M) : B ≤ w.heap.size := by have h1 := h.va.lt; have h2 := h.low.1; omega
theorem VA.ne {w : World} {p q : Nat} {cs ds : List Value} {S T : TypeId} (h : VA w p cs S) (k : VA w q ds T) (hT : S ≠ T) : p ≠ q := by
 rintro rfl
 have := h.blk.symm.trans k.blk
 simp only [Option.some.injEq, Obj.cells.injEq] at this
 exact hT this.2.1
theorem VA.neM {w : World} {p q : Nat} {cs : List Value} {S : TypeId} (h : VA w p cs S) (k : ∃ es c, w.heap[q]? = some (Obj.map es c)) : p ≠ q := by
 rintro rfl
 obtain ⟨es, c, e⟩ := k
 have := h.blk.symm.trans e
 cases this
theorem Own.blkT {α : Type} {K : Kd α} {w : World} {B : Nat} {v : Value} {xs : List α} (h : Own K w B v xs) {g : Nat} (hg : v.ownBlock = some g) : ∃ cs, w.heap[g]? = some (.cells cs K.T (0, 0)) := by
 rcases h.own.2 with ⟨rfl, _⟩ | ⟨q, cap, cur, rfl, _, hq, _⟩
 ·cases hg
 ·cases hg
  exact ⟨_, hq⟩
theorem OwnK.blkT {w : World} {B : Nat} {v : Value} {xs : List (Int × Int)} (h : OwnK w B v xs) {g : Nat} (hg : v.ownBlock = some g) : ∃ cs, w.heap[g]? = some (.cells cs 208 (0, 0)) := by
 rcases h.own.2 with ⟨rfl, _⟩ | ⟨q, cap, cur, rfl, _, hq, _⟩
 ·cases hg
 ·cases hg
  exact ⟨_, hq⟩
theorem OwnT.blkT {w : World} {B : Nat} {v : Value} {xs : List (Int × Int)} (h : OwnT w B v xs) {g : Nat} (hg : v.ownBlock = some g) : ∃ cs, w.heap[g]? = some (.cells cs 102 (0, 0)) := by
 rcases h.own.2 with ⟨rfl, _⟩ | ⟨q, cap, cur, rfl, _, hq, _⟩
 ·cases hg
 ·cases hg
  exact ⟨_, hq⟩
theorem OwnK.blk' {w w' : World} {B : Nat} {v : Value} {ts : List (Int × Int)} (h : OwnK w B v ts) (k : ∀ g, v.ownBlock = some g → w'.heap[g]? = w.heap[g]?) : OwnK w' B v ts := by
 refine ⟨h.wf, h.own.1, ?_⟩
 rcases h.own.2 with h2 | ⟨g, cap, cur, e, hb, hg, r⟩
 ·exact Or.inl h2
 ·exact Or.inr ⟨g, cap, cur, e, hb, (k g (by rw [e]; rfl)).trans hg, r⟩
theorem OwnT.blk' {w w' : World} {B : Nat} {v : Value} {ts : List (Int × Int)} (h : OwnT w B v ts) (k : ∀ g, v.ownBlock = some g → w'.heap[g]? = w.heap[g]?) : OwnT w' B v ts := by
 refine ⟨h.wf, h.own.1, ?_⟩
 rcases h.own.2 with h2 | ⟨g, cap, cur, e, hb, hg, r⟩
 ·exact Or.inl h2
 ·exact Or.inr ⟨g, cap, cur, e, hb, (k g (by rw [e]; rfl)).trans hg, r⟩
def NC (w : World) (bm i : Nat) : Prop := (∃ cs T fr, w.heap[i]? = some (Obj.cells cs T fr) ∧ T ≠ 154 ∧ T ≠ 208 ∧ T ≠ 102) ∨ ((∃ es c, w.heap[i]? = some (Obj.map es c)) ∧ i ≠ bm)
theorem NC.cells {w : World} {bm i : Nat} {cs : List Value} {T : TypeId} (h : VA w i cs T) (h1 : T ≠ 154) (h2 : T ≠ 208) (h3 : T ≠ 102) : NC w bm i := Or.inl ⟨_, _, _, h.blk, h1, h2, h3⟩
theorem NC.map {w : World} {bm i : Nat} (h : ∃ es c, w.heap[i]? = some (Obj.map es c)) (h1 : i ≠ bm) : NC w bm i := Or.inr ⟨h, h1⟩
theorem NC.no {w : World} {bm i : Nat} {cs : Array Value} {T : TypeId} {fr : Nat × Nat} (h : NC w bm i) (e : w.heap[i]? = some (Obj.cells cs T fr)) : T ≠ 154 ∧ T ≠ 208 ∧ T ≠ 102 := by
 rcases h with ⟨cs', T', fr', e', h1⟩ | ⟨⟨es, c, e'⟩, _⟩
 ·have := e.symm.trans e'
  simp only [Option.some.injEq, Obj.cells.injEq] at this
  rw [this.2.1]
  exact h1
 ·have := e.symm.trans e'
  cases this
theorem Cat.butM {X : Nat → Prop} {w w' : World} {p B bm : Nat} {S : Nat → Prop} {vs : List PV} {sv : Value} (h : Cat w p B S vs) (hb : VA w p [.map (some bm), sv] 154) (k : But X w w') (hX : ∀ i, X i → NC w bm i) : Cat w' p B S vs := by
 obtain ⟨h1, h2, h3, bm', sv', n, f, a1, a2, a3, a4, a5, a6, a7, a8⟩ := h
 obtain rfl : bm' = bm := by
  have := a1.blk.symm.trans hb.blk
  simp only [Option.some.injEq, Obj.cells.injEq, Array.mk.injEq, List.cons.injEq, Value.map.injEq] at this
  exact this.1.1
 have hp : ¬ X p := fun hx => (hX p hx |>.no a1.blk).1 rfl
 have hm : ¬ X bm' := fun hx => by
  rcases hX _ hx with ⟨cs, T, fr, e, _⟩ | ⟨_, hne⟩
  ·exact a4.notCells e
  ·exact hne rfl
 refine ⟨h1, h2, h3, bm', sv', n, f, a1.but k hp, a2, a3, a4.but k hm, a5, a6.blk' (fun g hg => ?_), fun x hx => ?_, a8⟩
 ·obtain ⟨cs, e⟩ := a6.blkT hg
  exact k.block g (Array.getElem?_eq_some_iff.1 e).1 (fun hx => (hX g hx |>.no e).2.1 rfl)
 ·obtain ⟨tv, e1, e2, e3⟩ := a7 x hx
  refine ⟨tv, e1, e2.blk' (fun g hg => ?_), e3⟩
  obtain ⟨cs, e⟩ := e2.blkT hg
  exact k.block g (Array.getElem?_eq_some_iff.1 e).1 (fun hx => (hX g hx |>.no e).2.2 rfl)
def cmpI (a b : Int) : Int := if a < b then -1 else if b < a then 1 else 0
theorem df (a : Int) (w : World) : Calls prog 147 #[.int .i64 a] w fun e w' => e = .returned (.bool false) ∧ w' = w := by
 go_enter func147, ntmps147
 go_wp2_with fail
 go_ret
 exact ⟨rfl, rfl⟩
theorem pX (a b : Int) (w : World) : Calls prog 97 #[.int .i64 a, .int .i64 b] w fun e w' => e = .returned (.int .i64 (cmpI a b)) ∧ w' = w := by
 unfold cmpI
 rcases Int.lt_trichotomy a b with h | h | h
 ·rw [if_pos h]
  go_enter func97, ntmps97
  go_wp2_with fail
  refine (df _ _).mono ?_
  rintro e w1 ⟨rfl, rfl⟩
  go_wp2_with fail
  refine (df _ _).mono ?_
  rintro e w2 ⟨rfl, rfl⟩
  go_wp2_with fail
  go_ret
  exact ⟨rfl, rfl⟩
 ·have h1 : ¬ a < b := by omega
  have h2 : ¬ b < a := by omega
  rw [if_neg h1, if_neg h2]
  go_enter func97, ntmps97
  go_wp2_with fail
  refine (df _ _).mono ?_
  rintro e w1 ⟨rfl, rfl⟩
  go_wp2_with fail
  refine (df _ _).mono ?_
  rintro e w2 ⟨rfl, rfl⟩
  go_wp2_with fail
  go_ret
  exact ⟨rfl, rfl⟩
 ·have h1 : ¬ a < b := by omega
  rw [if_neg h1, if_pos h]
  go_enter func97, ntmps97
  go_wp2_with fail
  refine (df _ _).mono ?_
  rintro e w1 ⟨rfl, rfl⟩
  go_wp2_with fail
  refine (df _ _).mono ?_
  rintro e w2 ⟨rfl, rfl⟩
  go_wp2_with fail
  go_ret
  exact ⟨rfl, rfl⟩
theorem eG (a : PA) (q hb : Nat) (id : Int) (w : World) (h : VA w q (a.cells hb) 85) : Calls prog 96 #[.pointer (some ⟨q, 0, none⟩), .int .i64 id] w fun e w' => e = .returned (.int .i64 (cmpI a.id id)) ∧ w' = w := by
 have c0 := h.cell 0 (v := .int .i64 a.id) rfl
 go_enter func96, ntmps96
 go_wp2_with fail
 refine (pX a.id id _).mono ?_
 rintro e w1 ⟨rfl, rfl⟩
 go_wp2_with fail
 go_ret
 exact ⟨rfl, rfl⟩
def plc : List PA → Int → Nat
 | [], _ => 0
 | a :: al, id => (if a.id < id then 1 else 0) + plc al id
theorem qT : ∀ (al : List PA) (id : Int), plc al id ≤ al.length
 | [], _ => Nat.le_refl _
 | a :: al, id => by
  unfold plc
  have := qT al id
  rw [List.length_cons]
  split <;> omega
theorem kR {al : List PA} {id : Int} (h : ∀ a ∈ al, id ≤ a.id) : plc al id = 0 := by
 induction al with
 | nil => rfl
 | cons a al ih =>
  unfold plc
  have := h a List.mem_cons_self
  rw [if_neg (by omega), ih (fun x hx => h x (List.mem_cons_of_mem _ hx))]
theorem ff {al : List PA} (hs : al.Pairwise fun a b => a.id < b.id) {i : Nat} {a : PA} (ha : al[i]? = some a) (id : Int) : a.id < id ↔ i < plc al id := by
 induction al generalizing i with
 | nil => cases ha
 | cons x al ih =>
  obtain ⟨h1, h2⟩ := List.pairwise_cons.1 hs
  unfold plc
  cases i with
  | zero =>
   have e : x = a := by simpa using ha
   rw [← e]
   by_cases h : x.id < id
   ·rw [if_pos h]; exact ⟨fun _ => by omega, fun _ => h⟩
   ·rw [if_neg h, kR (fun y hy => by have := h1 y hy; omega)]
    exact ⟨fun e => absurd e h, fun e => by omega⟩
  | succ i =>
   have := ih h2 ha
   have hm : a ∈ al := List.mem_of_getElem? ha
   have h3 := h1 a hm
   by_cases h : x.id < id
   ·rw [if_pos h, this]; omega
   ·rw [if_neg h, kR (fun y hy => by have := h1 y hy; omega)]
    exact ⟨fun e => by omega, fun e => by omega⟩
def has (al : List PA) (id : Int) : Bool := al.any fun a => decide (a.id = id)
theorem vI {al : List PA} (hs : al.Pairwise fun a b => a.id < b.id) {a : PA} {id : Int} (ha : al[plc al id]? = some a) : has al id = decide (a.id = id) := by
 by_cases h : a.id = id
 ·rw [decide_eq_true h]
  exact List.any_eq_true.2 ⟨a, List.mem_of_getElem? ha, decide_eq_true h⟩
 ·rw [decide_eq_false h]
  refine Bool.eq_false_iff.2 (fun e => ?_)
  obtain ⟨x, hx, he⟩ := List.any_eq_true.1 e
  have he : x.id = id := by simpa using he
  obtain ⟨j, hj⟩ := List.getElem?_of_mem hx
  have h1 := ff hs hj id
  have h2 := ff hs ha id
  have h3 : ¬ a.id < id := fun e => by have := h2.1 e; omega
  have h4 : ¬ j < plc al id := fun e => by have := h1.2 e; omega
  rcases Nat.eq_or_lt_of_le (show plc al id ≤ j by omega) with e2 | e2
  ·subst e2
   rw [ha] at hj
   cases hj
   exact h he
  ·have h5 : a.id < x.id := by
    obtain ⟨l1, e3⟩ := List.getElem?_eq_some_iff.1 ha
    obtain ⟨l2, e4⟩ := List.getElem?_eq_some_iff.1 hj
    have := List.pairwise_iff_getElem.1 hs _ _ l1 l2 e2
    rw [e3, e4] at this
    exact this
   omega
theorem sW {al : List PA} (hs : al.Pairwise fun a b => a.id < b.id) {id : Int} (h : plc al id = al.length) : has al id = false := by
 refine Bool.eq_false_iff.2 (fun e => ?_)
 obtain ⟨x, hx, he⟩ := List.any_eq_true.1 e
 have he : x.id = id := by simpa using he
 obtain ⟨j, hj⟩ := List.getElem?_of_mem hx
 have h1 := ff hs hj id
 have h2 := (List.getElem?_eq_some_iff.1 hj).1
 have := h1.2 (by omega)
 omega
theorem has_iff {al : List PA} {id : Int} : has al id = true ↔ ∃ a ∈ al, a.id = id := by
 unfold has
 rw [List.any_eq_true]
 exact ⟨fun ⟨a, h1, h2⟩ => ⟨a, h1, by simpa using h2⟩, fun ⟨a, h1, h2⟩ => ⟨a, h1, by simpa using h2⟩⟩
theorem MD.at {w : World} {B : Nat} {F : FB} {M : PM} (h : MD w B F M) {k : Nat} (hk : k < M.al.length) : ∃ a x b off c, M.al[k]? = some a ∧ F.ab[k]? = some x ∧ F.sv = .slice (some ⟨b, off, none⟩) M.al.length c ∧ M.al.length ≤ c ∧ b < w.heap.size ∧ w.cell? ⟨b, off + k, none⟩ = some (.pointer (some ⟨x.1, 0, none⟩)) ∧ VA w x.1 (a.cells x.2) 85 ∧ AM KI encI w x.2 a.hs := by
 have hl := h.len
 obtain ⟨a, ha⟩ : ∃ a, M.al[k]? = some a := ⟨_, List.getElem?_eq_getElem hk⟩
 obtain ⟨x, hx⟩ : ∃ x, F.ab[k]? = some x := ⟨_, List.getElem?_eq_getElem (by omega)⟩
 obtain ⟨va, vc, e, h1, h2⟩ := h.row.form
 have hs := h.row.sl
 rw [e] at hs
 obtain ⟨b, off, e2, hb, hc⟩ := hs.at k x.1 (by rw [List.getElem?_map, hx]; rfl)
 subst e2
 rw [List.length_map, hl] at e h1
 have c0 := hc 0 _ rfl
 simp only [show KP.k = 1 from rfl, Nat.mul_one, Nat.add_zero] at c0
 exact ⟨a, x, b, off, vc, ha, hx, e, h1, hb, c0, (h.acs k a x ha hx).1, (h.acs k a x ha hx).2⟩
theorem MD.form {w : World} {B : Nat} {F : FB} {M : PM} (h : MD w B F M) : ∃ a c, F.sv = .slice a M.al.length c ∧ M.al.length ≤ c ∧ c ≤ 9223372036854775807 := by
 obtain ⟨a, c, e, h1, h2⟩ := h.row.form
 rw [List.length_map, h.len] at e h1
 exact ⟨a, c, e, h1, h2⟩
theorem lO (w : World) (B : Nat) (F : FB) (M : PM) (h : MD w B F M) (id : Int) :
  Calls prog 95 #[F.sv, .int .i64 id, .func (.func 96) #[] #[]] w fun e w' => e = .returned (.tuple #[.int .i64 (plc M.al id : Int), .bool (has M.al id)]) ∧ w' = w := by
 have HM : Hid (MD w B F M) := h
 obtain ⟨sa, sc, hsv, hsc, hsc2⟩ := h.form
 have hn := h.wf.len
 have hpl := qT M.al id
 obtain ⟨n, hn0⟩ : ∃ n, n = M.al.length := ⟨_, rfl⟩
 have HN : Hid (n = M.al.length) := hn0
 have HSV : Hid (F.sv = .slice sa n sc) := (by rw [hn0]; exact hsv)
 rw [hsv, ← hn0]
 rw [← hn0] at hn hpl hsc
 obtain ⟨P, hP⟩ : ∃ P, P = plc M.al id := ⟨_, rfl⟩
 have HP : Hid (P = plc M.al id) := hP
 rw [← hP] at hpl ⊢
 obtain ⟨hh, hH⟩ : ∃ x, x = has M.al id := ⟨_, rfl⟩
 have HH : Hid (hh = has M.al id) := hH
 rw [← hH]
 clear hn0 hP hsv h hH
 go_enter func95, ntmps95
 go_wp2_with fail
 go_loop [9, 10] (fun i j => ∃ a b : Nat, i = .int .i64 (a : Int) ∧ j = .int .i64 (b : Int) ∧ a ≤ P ∧ P ≤ b ∧ b ≤ n) (fun i j => (intOf j - intOf i).toNat)
 case atStart => exact ⟨0, n, rfl, rfl, Nat.zero_le _, hpl, Nat.le_refl _⟩
 case round =>
  obtain ⟨a, b, rfl, rfl, h1, h2, h3⟩ := hrel
  by_cases hab : a < b
  ·obtain ⟨m, hm⟩ : ∃ m, m = (a + b) / 2 := ⟨_, rfl⟩
   have hm1 : a ≤ m ∧ m < b := by omega
   obtain ⟨y, x, bb, off, c, hy, hx, hsv, hc1, hbb, hcell, hva, _⟩ := HM.out.at (k := m) (by rw [← HN.out]; omega)
   obtain rfl : sa = some ⟨bb, off, none⟩ := by have := HSV.out.symm.trans hsv; injection this
   have dk : (a : Int) < (b : Int) := by omega
   have dm : ((a : Int) + (b : Int)) / 2 = (m : Int) := by omega
   have hV := hI_ hva
   have hpl2 := ff HM.out.wf.sort hy id
   rw [← HP.out] at hpl2
   have HPL := hI_ hpl2
   clear hva hsv hc1 hm hpl2 hy hx
   by_cases hyi : y.id < id
   ·have hc : cmpI y.id id = -1 := if_pos hyi
    have h5 : m + 1 ≤ P := HPL.out.1 hyi
    clear HPL hyi
    go_wp2_with fail
    refine (eG y x.1 x.2 id _ hV.out).mono ?_
    rintro e w1 ⟨rfl, hw⟩
    obtain rfl := hw.symm
    rw [hc]
    clear hc
    go_wp2_with fail
    exact ⟨⟨m + 1, b, by go_num, rfl, h5, h2, h3⟩, by simp [intOf]; omega⟩
   ·obtain ⟨q, hq, hq0⟩ : ∃ q, cmpI y.id id = q ∧ 0 ≤ q := ⟨_, rfl, by unfold cmpI; rw [if_neg hyi]; split <;> omega⟩
    have h5 : P ≤ m := Nat.le_of_not_lt (fun e => hyi (HPL.out.2 e))
    have hq1 : ¬ q < 0 := by omega
    clear HPL hyi
    go_wp2_with fail
    refine (eG y x.1 x.2 id _ hV.out).mono ?_
    rintro e w1 ⟨rfl, hw⟩
    obtain rfl := hw.symm
    rw [hq]
    clear hq
    go_wp2_with fail
    exact ⟨⟨a, m, rfl, rfl, h1, h5, by omega⟩, by simp [intOf]; omega⟩
  ·have hab2 : a = b := by omega
   subst hab2
   have haP : a = P := by omega
   subst haP
   have dk : ¬ (a : Int) < (a : Int) := by omega
   by_cases han : a < n
   ·obtain ⟨y, x, bb, off, c, hy, hx, hsv, hc1, hbb, hcell, hva, _⟩ := HM.out.at (k := a) (by rw [← HN.out]; omega)
    obtain rfl : sa = some ⟨bb, off, none⟩ := by have := HSV.out.symm.trans hsv; injection this
    have hV := hI_ hva
    have hha := vI (id := id) HM.out.wf.sort (a := y) (by rw [← HP.out]; exact hy)
    have dn : (a : Int) < (n : Int) := by omega
    clear hva hsv hc1 hy hx
    by_cases hyi : y.id = id
    ·have hc : cmpI y.id id = 0 := by unfold cmpI; rw [if_neg (by omega), if_neg (by omega)]
     obtain rfl : hh = true := by rw [HH.out, hha, decide_eq_true hyi]
     clear hha hyi HH
     go_wp2_with fail
     refine (eG y x.1 x.2 id _ hV.out).mono ?_
     rintro e w1 ⟨rfl, hw⟩
     obtain rfl := hw.symm
     rw [hc]
     clear hc
     go_wp2_with fail
     go_ret2
     exact ⟨rfl, rfl⟩
    ·obtain ⟨q, hq, hq0⟩ : ∃ q, cmpI y.id id = q ∧ ¬ q = 0 := ⟨_, rfl, by
      unfold cmpI
      rcases Int.lt_trichotomy y.id id with e | e | e
      ·rw [if_pos e]; decide
      ·exact absurd e hyi
      ·rw [if_neg (by omega), if_pos e]; decide⟩
     have hq2 : (q == 0) = false := by simpa using hq0
     obtain rfl : hh = false := by rw [HH.out, hha, decide_eq_false hyi]
     clear hha hyi HH
     go_wp2_with fail
     refine (eG y x.1 x.2 id _ hV.out).mono ?_
     rintro e w1 ⟨rfl, hw⟩
     obtain rfl := hw.symm
     rw [hq]
     clear hq
     go_wp2_with fail
     go_ret2
     exact ⟨rfl, rfl⟩
   ·have dn : ¬ (a : Int) < (n : Int) := by omega
    obtain rfl : hh = false := by rw [HH.out, sW HM.out.wf.sort (id := id) (by rw [← HP.out, ← HN.out]; omega)]
    clear HH
    go_wp2_with fail
    go_ret2
    exact ⟨rfl, rfl⟩
theorem fA (w : World) (B : Nat) (F : FB) (M : PM) (h : MD w B F M) (id : Int) :
  Calls prog 62 #[.pointer (some ⟨F.pm, 0, none⟩), .int .i64 id] w fun e w' => e = .returned (.tuple #[.int .i64 (plc M.al id : Int), .bool (has M.al id)]) ∧ w' = w := by
 have HB := hI_ (fun (_ : Unit) => lO w B F M h id)
 obtain ⟨sa, sc, hsv, hsc, hsc2⟩ := h.form
 have c2 := h.va.cell 2 (v := F.sv) rfl
 rw [hsv] at c2 HB
 clear h hsv
 go_enter func62, ntmps62
 go_wp2_with fail
 refine Calls.mono (HB.out ()) ?_
 rintro e w1 ⟨rfl, hw⟩
 obtain rfl := hw.symm
 clear HB
 go_wp2_with fail
 go_ret2
 exact ⟨rfl, rfl⟩
theorem jr (w : World) (B : Nat) (F : FB) (M : PM) (h : MD w B F M) (id : Int) (hn : has M.al id = false) :
  Calls prog 34 #[.pointer (some ⟨F.pm, 0, none⟩), .int .i64 id] w fun e w' => e = .returned (.pointer none) ∧ w' = w := by
 have HP := hI_ (fun (_ : Unit) => fA w B F M h id)
 rw [hn] at HP
 clear h hn
 go_enter func34, ntmps34
 go_wp2_with fail
 refine Calls.mono (HP.out ()) ?_
 rintro e w1 ⟨rfl, hw⟩
 obtain rfl := hw.symm
 clear HP
 go_wp2_with fail
 go_ret
 exact ⟨rfl, rfl⟩
structure IsA (F : FB) (M : PM) (i : Nat) (a : PA) (x : Nat × Nat) : Prop where
 a : M.al[i]? = some a
 x : F.ab[i]? = some x
theorem MD.plcI {w : World} {B : Nat} {F : FB} {M : PM} (h : MD w B F M) {i : Nat} {a : PA} {x : Nat × Nat} (hi : IsA F M i a x) : plc M.al a.id = i := by
 have h1 := ff h.wf.sort hi.a a.id
 have h2 : ¬ i < plc M.al a.id := fun e => by have := h1.2 e; omega
 rcases Nat.eq_or_lt_of_le (Nat.le_of_not_lt h2) with e | e
 ·exact e
 ·have hl := (List.getElem?_eq_some_iff.1 hi.a).1
  obtain ⟨y, hy⟩ : ∃ y, M.al[plc M.al a.id]? = some y := ⟨_, List.getElem?_eq_getElem (by omega)⟩
  have h3 := ff h.wf.sort hy a.id
  have h4 : ¬ y.id < a.id := fun e => by have := h3.1 e; omega
  obtain ⟨l1, e1⟩ := List.getElem?_eq_some_iff.1 hy
  obtain ⟨l2, e2⟩ := List.getElem?_eq_some_iff.1 hi.a
  have := List.pairwise_iff_getElem.1 h.wf.sort _ _ l1 l2 e
  rw [e1, e2] at this
  exact absurd this h4
theorem fq (w : World) (B : Nat) (F : FB) (M : PM) (h : MD w B F M) {i : Nat} {a : PA} {x : Nat × Nat} (hi : IsA F M i a x) :
  Calls prog 34 #[.pointer (some ⟨F.pm, 0, none⟩), .int .i64 a.id] w fun e w' => e = .returned (.pointer (some ⟨x.1, 0, none⟩)) ∧ w' = w := by
 have HP := hI_ (fun (_ : Unit) => fA w B F M h a.id)
 rw [has_iff.2 ⟨a, List.mem_of_getElem? hi.a, rfl⟩, h.plcI hi] at HP
 obtain ⟨y, z, b, off, c, hy, hz, hsv, h1, h2, hcell, _, _⟩ := h.at (List.getElem?_eq_some_iff.1 hi.a).1
 obtain rfl : z = x := by have := hz.symm.trans hi.x; injection this
 have c2 := h.va.cell 2 (v := F.sv) rfl
 rw [hsv] at c2
 have hl := (List.getElem?_eq_some_iff.1 hi.a).1
 have hn := h.wf.len
 generalize M.al.length = n at *
 generalize a.id = id at *
 obtain ⟨zp, zh⟩ := z
 dsimp only at hcell ⊢
 have d1 : (i : Int) < (n : Int) := by omega
 have d0 : (0 : Int) ≤ (i : Int) := by omega
 clear h hi hy hz hsv
 go_enter func34, ntmps34
 go_wp2_with fail
 refine Calls.mono (HP.out ()) ?_
 rintro e w1 ⟨rfl, hw⟩
 obtain rfl := hw.symm
 clear HP
 go_wp2_with fail
 go_ret
 exact ⟨rfl, rfl⟩
end Go.Proofs.YtjkiplndbcmmbaaGreatDoor