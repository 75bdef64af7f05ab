/- disk I: ranges over an iterator that goes over another iterator: a law for a loop whose body never leaves it; worlds in which only blocks of the disk's own types changed; regions without yield in a round, by the plain laws. -/
import Derived.Test.YtkmdegmpffgplaaGreatDoorLab
import Derived.Test.YtkmdegmpffgplaaGreatDoorLac
import Derived.RangeFuncNested
import Derived.RangeFuncBound
import Derived.RangeFuncCalls
import Derived.RangeFuncLeaves
import Derived.Shelf.Abstract
import Derived.Shelf.RegionOpen
import Derived.OwnWalkIn
import Derived.TacticsInMore
import Derived.LoopNIn
import Derived.LoopIn
import Derived.Test.YtkmdegmpffgplaaGreatDoorProg
import Derived.WalkKit
namespace Go.Proofs.YtkmdegmpffgplaaGreatDoor
open Go.RowKit Go.Shelf
set_option linter.unusedVariables false
attribute [local go_sem] Oper.semAt_some

/-- an iterator gives just the values xs, whatever the rounds do: J abides new blocks, and the turn of what is no cells and was laid since -/
def SeqC {α : Type} (F : Fence) (n : Nat) (P : Program) (g : Nat) (lb : Array Value) (encs : α → Array Value) (Kp : World → World → Prop) (xs : List α) (w : World) : Prop :=
  ∀ (l : Nat) (J : List α → World → Prop) (W : World), Below w.heap.size w W → w.heap.size + 2 ≤ W.heap.size → OwnFrom W.heap.size J →
    (∀ pre x W1, J pre W1 → pre.length < xs.length → YieldAt F (n - 1) P l (encs x) W1 fun e W' => e = .returned (.bool true) ∧ J (pre ++ [x]) W' ∧ Kp W1 W') →
    J [] W → CallsIn F n P g (#[.func (.yield l) #[] #[]] ++ lb) W fun e W' => (∃ v, e = .returned v) ∧ J xs W'

theorem rangeAll {α : Type} {F : Fence} {n : Nat} {P : Program} {g : Operand} {ps : Array Tmp} {assign body : Code} {Q : Exit → Act → World → Prop} {a : Act} {w : World}
    (hro : F.round = none) (h1 : 1 ≤ n) {gf : Nat} {lb : Array Value} (hg : a.eval g = .func (.func gf) #[] lb) (hFg : F.fn gf) (eg : ∀ args w, (callFunc gf args).run P w = .ok (.enter gf args) w)
    {encs : α → Array Value} {Kp : World → World → Prop} {xs : List α} (hseq : SeqC F (n - 1) P gf lb encs Kp xs w)
    (hKt : ∀ {A B C : World}, Kp A B → Kp B C → Kp A C) (hKb : ∀ (W : World) (o o' : Obj), W.heap[w.heap.size + 1]? = some o → o.isCells = false → Kp W (W.putObj (w.heap.size + 1) o')) (hps : ∀ x, (encs x).size = ps.size)
    (I : List α → World → Prop) (hI : OwnFrom w.heap.size I) (h0 : I [] w) (Ax : α → Act → World → Prop) (hAx : ∀ x a', OwnFrom w.heap.size (fun (_ : Unit) W => Ax x a' W))
    (hassign : ∀ (l : Nat) (pre : List α) (x : α) (W : World) (K : Act → World → Prop), I pre W → (∀ a' W', KeepsFrom w.heap.size W W' → Kp W W' → I pre W' → Ax x a' W' → K a' W') →
      assign.wpIn (F.inRound l) (n - 1 - 1) P (Exit.then K (fun _ _ _ => False)) { tmps := (ps.zip (encs x)).foldl (fun t (p, v) => t.setIfInBounds p v) a.tmps, defers := [] } W)
    (hbody : ∀ (l : Nat) (pre : List α) (x : α) (a' : Act) (W : World), pre.length < xs.length → I pre W → Ax x a' W → body.wpIn (F.inRound l) (n - 1 - 1) P (fun e _ W' => e = .normal ∧ KeepsFrom w.heap.size W W' ∧ Kp W W' ∧ I (pre ++ [x]) W') a' W)
    (hdone : ∀ (D : Nat) (W : World), w.heap.size ≤ D → I xs W → W.heap[D]? = some (.deferred (some [])) → Q .normal { a with defers := { target := .collected D, args := #[] } :: a.defers } W) :
    (Code.rangeFunc g ps assign body).wpIn F n P Q a w := by
  refine wpIn_rangeFunc fun fn hfn => ?_
  rw [hro]
  let rec' : LoopState → Loop := fun st => { state := st, pending := none, fn, tmps := a.tmps, params := ps, assign, body, defers := w.heap.size }
  let W1 := (w.alloc (.deferred (some []))).alloc (.loop (rec' .ready))
  have hL1 : W1.heap[w.heap.size + 1]? = some (.loop (rec' .ready)) := by
    have := World.alloc_heap_new (w.alloc (.deferred (some []))) (.loop (rec' .ready))
    rwa [World.size_alloc] at this
  have hK1 : W1.heap[w.heap.size]? = some (.deferred (some [])) := (Below.heap_alloc _ _ _ (by simp)).trans (World.alloc_heap_new w _)
  have hs1 : W1.heap.size = w.heap.size + 2 := by simp [W1]
  refine ⟨w.heap.size + 1, [{ target := .collected w.heap.size, args := #[] }], W1, { target := .fn (.func gf) lb, args := #[.func (.yield (w.heap.size + 1)) #[] #[]] }, W1, gf,
    #[.func (.yield (w.heap.size + 1)) #[] #[]] ++ lb, W1, run_enterLoop_outer _ _ _ _ _, ?_, ?_, ?_, fun _ => h1, ?_⟩
  · simp only [resolve, hg]
    simp [go_sem]
  · intro f' hf'; simp [Target.leads] at hf'; subst hf'; exact hFg
  · simp [invoke, go_sem, eg]
  · have hc := hseq (w.heap.size + 1) (fun pre W => I pre W ∧ W.heap[w.heap.size + 1]? = some (.loop (rec' .ready)) ∧ W.heap[w.heap.size]? = some (.deferred (some []))) W1
      (((Below.refl _ w).alloc (Nat.le_refl _) _).alloc (by simp) _) (Nat.le_of_eq hs1.symm)
      (fun s A A' row hs hgr hr => by
        have hlA := (Array.getElem?_eq_some_iff.1 hs.2.1).1
        have hne : ∀ k, k < w.heap.size + 2 → some k ≠ row := fun k hk e => by have := (hr k e.symm).1; omega
        exact ⟨hI s A A' row hs.1 hgr (fun r e => ⟨by have := (hr r e).1; omega, (hr r e).2⟩), (hgr.block _ hlA (hne _ (by omega))).trans hs.2.1, (hgr.block _ (by omega) (hne _ (by omega))).trans hs.2.2⟩)
      ?_ ⟨hI.alloc _ (hI.alloc _ h0), hL1, hK1⟩
    · refine hc.mono ?_
      rintro e W2 ⟨⟨v, rfl⟩, hi, hl, hk⟩
      exact ⟨none, _, run_endLoop (P := P) hl (by simp [rec']), hdone _ _ (Nat.le_refl _) (hI.putObj _ hi (by omega) hl rfl) ((World.putObj_heap_other (by omega)).trans hk)⟩
    · rintro pre x W ⟨hi, hl, hk⟩ hlen
      refine ⟨fn, _, assign, body, run_yield (P := P) (args := encs x) hl (hps x), roundIn_of_wpIn hfn (hassign _ pre x W _ hi ?_)⟩
      intro a' Wa kf kp ia hax
      have hl' := kf.same _ _ (by omega) hl rfl
      have hk' := kf.same _ _ (Nat.le_refl _) hk rfl
      have hlt := (Array.getElem?_eq_some_iff.1 hl').1
      refine ⟨_, run_beginRound hl' rfl, ?_⟩
      have hl2 : (Wa.putObj (w.heap.size + 1) (.loop (rec' .busy))).heap[w.heap.size + 1]? = some (.loop (rec' .busy)) := World.putObj_heap_same hlt
      have hk2 : (Wa.putObj (w.heap.size + 1) (.loop (rec' .busy))).heap[w.heap.size]? = some (.deferred (some [])) := (World.putObj_heap_other (by omega)).trans hk'
      have kp2 : Kp Wa (Wa.putObj (w.heap.size + 1) (.loop (rec' .busy))) := hKb _ _ _ hl' rfl
      refine wpIn_mono (hbody _ pre x a' _ hlen (hI.putObj _ ia (by omega) hl' rfl) ((hAx x a').putObj (s := ()) _ hax (by omega) hl' rfl)) ?_
      rintro e a3 W3 ⟨rfl, kf3, kp3, i3⟩
      have hl3 := kf3.same _ _ (by omega) hl2 rfl
      have hk3 := kf3.same _ _ (Nat.le_refl _) hk2 rfl
      exact ⟨_, _, run_endRound (P := P) none hl3, rfl, ⟨hI.putObj _ i3 (by omega) hl3 rfl, World.putObj_heap_same (Array.getElem?_eq_some_iff.1 hl3).1, (World.putObj_heap_other (by omega)).trans hk3⟩, hKt kp (hKt kp2 (hKt kp3 (hKb _ _ _ hl3 rfl)))⟩
/-- in the wide fence it is all one how deep one is -/
theorem yield_any {m : Nat} (m' : Nat) {P : Program} {l : Nat} {args : Array Value} {W : World} {R : Ending → World → Prop} (h : YieldAt Fence.wide m P l args W R) : YieldAt Fence.wide m' P l args W R := by
  obtain ⟨fn, tmps, assign, body, hy, hf, hR⟩ := h
  exact ⟨fn, tmps, assign, body, hy, hf, fun c cs _ => hR c cs (fun d hd => by cases hd)⟩
theorem round_in {F : Fence} {n l0 : Nat} {P : Program} {l : Nat} {f : FuncId} {tmps : Array Value} {assign body : Code} {w : World} {R : Ending → World → Prop} (h : RoundIn F n P l f tmps assign body w R) : RoundIn (F.inRound l0) n P l f tmps assign body w R := h
/-- a region of a round that follows the text, by the plain laws -/
theorem list_round {P : Program} {ops : Array Oper} {Q : Exit → Act → World → Prop} {n l : Nat} (hq : ¬ LetsOut Q) : ∀ (rest : List Oper) (a : Act) (w : World), (rest.all fun o => match o.op with | .defer _ => false | _ => true) = true → wpList P ops Q rest a w → wpListIn (Fence.wide.inRound l) n P ops Q rest a w
  | [], a, w, _, h => h
  | o :: rest, a, w, hd, h => by
    simp only [List.all_cons, Bool.and_eq_true] at hd
    unfold wpList at h
    unfold wpListIn
    split
    · rename_i hw
      simp only [hw, if_true] at h
      rcases h with h | h
      · refine oper_round (fun c e => by rw [e] at hd; cases hd.1) (Oper.wp_mono (fun a' w' h' => list_round hq rest a' w' hd.2 h') h)
      · exact absurd h.2 hq
    · rename_i hw
      simp only [hw] at h
      exact ⟨fun _ _ => trivial, list_round hq rest _ _ hd.2 h⟩
theorem region_list_round {P : Program} {L : List Oper} {Q : Exit → Act → World → Prop} {n l id : Nat} {a : Act} {w : World} (hq : ¬ LetsOut Q) (hd : (L.all fun o => match o.op with | .defer _ => false | _ => true) = true) (h : wpList P L.toArray Q L a w) : (Code.region id L.toArray false).wpIn (Fence.wide.inRound l) n P Q a w :=
  wpIn_region_lit (list_round hq L a w hd h)
end Go.Proofs.YtkmdegmpffgplaaGreatDoor
/- Numbers seven bits a byte: plain arithmetic of the form. -/
namespace Go.Proofs.YtkmdegmpffgplaaGreatDoor.pk
set_option linter.unusedVariables false

/-- the bytes of a number -/
def enc (n : Nat) : List Nat := if h : n < 128 then [n] else (n % 128 + 128) :: enc (n / 128)
  termination_by n
  decreasing_by omega
theorem enc_lo {n : Nat} (h : n < 128) : enc n = [n] := by rw [enc]; simp [h]
theorem enc_hi {n : Nat} (h : ¬ n < 128) : enc n = (n % 128 + 128) :: enc (n / 128) := by rw [enc]; simp [h]
/-- the value of bytes that go on -/
def dv : List Nat → Nat
  | [] => 0
  | x :: t => x % 128 + 128 * dv t
theorem dv_lt : ∀ l : List Nat, dv l < 128 ^ l.length
  | [] => by simp [dv]
  | x :: t => by
    have := dv_lt t
    simp only [dv, List.length_cons, Nat.pow_succ]
    omega
theorem dv_snoc : ∀ (l : List Nat) (b : Nat), dv (l ++ [b]) = dv l + b % 128 * 128 ^ l.length
  | [], b => by simp [dv]
  | x :: t, b => by
    simp only [List.cons_append, dv, List.length_cons, Nat.pow_succ, dv_snoc t b]
    rw [Nat.mul_add, Nat.add_assoc]
    congr 2
    rw [Nat.mul_comm 128, Nat.mul_assoc]
theorem dv_take (bs : List Nat) (i : Nat) (h : i < bs.length) : dv (bs.take (i + 1)) = dv (bs.take i) + bs.getD i 0 % 128 * 128 ^ i := by
  rw [List.take_add_one, List.getElem?_eq_getElem h]
  simp only [Option.toList]
  rw [dv_snoc, List.length_take, Nat.min_eq_left (by omega)]
  simp [List.getD, h]
theorem enc_of : ∀ (l : List Nat) (b : Nat), (∀ x ∈ l, 128 ≤ x ∧ x < 256) → b < 128 → (b ≠ 0 ∨ l = []) → enc (dv l + b * 128 ^ l.length) = l ++ [b]
  | [], b, _, hb, _ => by simp [dv, enc_lo hb]
  | x :: t, b, hl, hb, h0 => by
    have hx := hl x (by simp)
    have hb0 : b ≠ 0 := by rcases h0 with h | h; exact h; simp at h
    have ih := enc_of t b (fun y hy => hl y (by simp [hy])) hb (Or.inl hb0)
    have hv : dv (x :: t) + b * 128 ^ (x :: t).length = x % 128 + 128 * (dv t + b * 128 ^ t.length) := by
      simp only [dv, List.length_cons, Nat.pow_succ]
      rw [Nat.mul_add, ← Nat.add_assoc]; congr 1
      rw [← Nat.mul_assoc, Nat.mul_comm]
    have hp : 0 < 128 ^ t.length := Nat.pow_pos (by omega)
    have h1 : 1 ≤ b * 128 ^ t.length := Nat.mul_pos (by omega) hp
    rw [hv]
    generalize dv t + b * 128 ^ t.length = m at *
    have hm : 1 ≤ m ∨ True := Or.inr trivial
    by_cases hz : m = 0
    · exfalso
      subst hz
      have : enc 0 = [0] := enc_lo (by omega)
      rw [this] at ih
      cases t with
      | nil => simp at ih; omega
      | cons a t => simp at ih
    rw [enc_hi (by omega), List.cons_append]
    congr 1
    · omega
    · rw [show (x % 128 + 128 * m) / 128 = m by omega, ih]
/-- what the bytes of a number are -/
structure Shape (n : Nat) (l : List Nat) (b : Nat) : Prop where
  eq : enc n = l ++ [b]
  mid : ∀ x ∈ l, 128 ≤ x ∧ x < 256
  lt : b < 128
  last : b ≠ 0 ∨ l = []
  val : n = dv l + b * 128 ^ l.length
theorem shape (n : Nat) : ∃ l b, Shape n l b := by
  induction n using Nat.strongRecOn with
  | _ n ih =>
    by_cases h : n < 128
    · exact ⟨[], n, by simp [enc_lo h], by simp, h, Or.inr rfl, by simp [dv]⟩
    · obtain ⟨l, b, s⟩ := ih (n / 128) (by omega)
      refine ⟨(n % 128 + 128) :: l, b, by rw [enc_hi h, s.eq]; rfl, ?_, s.lt, Or.inl ?_, ?_⟩
      · intro x hx
        rcases List.mem_cons.1 hx with rfl | hx
        · omega
        · exact s.mid x hx
      · rcases s.last with h0 | h0
        · exact h0
        · have := s.val
          rw [h0] at this
          simp [dv] at this
          omega
      · have := s.val
        simp only [dv, List.length_cons, Nat.pow_succ]
        have e : b * (128 ^ l.length * 128) = 128 * (b * 128 ^ l.length) := by rw [← Nat.mul_assoc, Nat.mul_comm]
        rw [e]
        omega
theorem enc_pos (n : Nat) : 0 < (enc n).length := by
  obtain ⟨l, b, s⟩ := shape n
  rw [s.eq]; simp
theorem enc_byte {n x : Nat} (h : x ∈ enc n) : x < 256 := by
  obtain ⟨l, b, s⟩ := shape n
  rw [s.eq] at h
  rcases List.mem_append.1 h with h | h
  · exact (s.mid x h).2
  · have := s.lt; simp at h; omega
theorem enc_len {n : Nat} (h : n < 18446744073709551616) : (enc n).length ≤ 10 := by
  obtain ⟨l, b, s⟩ := shape n
  rw [s.eq, List.length_append, List.length_singleton]
  by_cases hc : l.length ≤ 9
  · omega
  · exfalso
    have hl : l ≠ [] := by intro e; subst e; simp at hc
    have hb : b ≠ 0 := by rcases s.last with h | h; exact h; exact absurd h hl
    have h1 : 128 ^ 10 ≤ 128 ^ l.length := Nat.pow_le_pow_right (by omega) (by omega)
    have h2 : 1 * 128 ^ l.length ≤ b * 128 ^ l.length := Nat.mul_le_mul_right _ (by omega)
    have := s.val
    have h3 : (128 : Nat) ^ 10 = 1180591620717411303424 := by decide
    omega
theorem enc_inj_front : ∀ (n m : Nat) (bs : List Nat), enc n <+: bs → enc m <+: bs → n = m := by
  intro n
  induction n using Nat.strongRecOn with
  | _ n ih =>
    intro m bs hn hm
    obtain ⟨t, ht⟩ := hn
    obtain ⟨u, hu⟩ := hm
    by_cases h : n < 128
    · by_cases h' : m < 128
      · rw [enc_lo h] at ht; rw [enc_lo h'] at hu
        rw [← ht] at hu; simp at hu; omega
      · rw [enc_lo h] at ht; rw [enc_hi h'] at hu
        rw [← ht] at hu; simp at hu; omega
    · by_cases h' : m < 128
      · rw [enc_hi h] at ht; rw [enc_lo h'] at hu
        rw [← ht] at hu; simp at hu; omega
      · rw [enc_hi h] at ht; rw [enc_hi h'] at hu
        rw [← ht] at hu
        simp only [List.cons_append, List.cons.injEq] at hu
        have := ih (n / 128) (by omega) (m / 128) (enc (n / 128) ++ t) ⟨t, rfl⟩ ⟨u, hu.2⟩
        omega
theorem getD_at (l : List Nat) (b : Nat) (t : List Nat) : (l ++ [b] ++ t).getD l.length 0 = b := by simp [List.getD]
theorem getD_in (l : List Nat) (t : List Nat) (i : Nat) (h : i < l.length) : (l ++ t).getD i 0 ∈ l := by
  simp [List.getD, List.getElem?_append_left h, List.getElem?_eq_getElem h]
/-- there is a number's form at the front of the bytes just if .. -/
theorem front_at {n i : Nat} {bs : List Nat} (h : enc n <+: bs) (hi : i < bs.length) (hc : ∀ j, j < i → 128 ≤ bs.getD j 0) (hl : bs.getD i 0 < 128) :
    ∃ l, Shape n l (bs.getD i 0) ∧ l.length = i := by
  obtain ⟨l, b, s⟩ := shape n
  obtain ⟨t, ht⟩ := h
  rw [s.eq] at ht
  have h1 : bs.getD l.length 0 = b := by rw [← ht]; exact getD_at l b t
  have hlen : l.length = i := by
    rcases Nat.lt_trichotomy l.length i with h | h | h
    · have := hc _ h; have := s.lt; omega
    · exact h
    · have hm := getD_in l ([b] ++ t) i h
      rw [← List.append_assoc, ht] at hm
      have := (s.mid _ hm).1
      omega
  subst hlen
  rw [h1]
  exact ⟨l, s, rfl⟩
theorem front_none {n i : Nat} {bs : List Nat} (hi : i ≤ bs.length) (hc : ∀ j, j < i → 128 ≤ bs.getD j 0) (hx : bs.length ≤ i ∨ 10 ≤ i) (hn : n < 18446744073709551616) : ¬ enc n <+: bs := by
  intro h
  have hle := enc_len hn
  obtain ⟨l, b, s⟩ := shape n
  have hlb := h.length_le
  obtain ⟨t, ht⟩ := h
  rw [s.eq] at ht hle hlb
  simp at hle hlb
  have h1 : bs.getD l.length 0 = b := by rw [← ht]; exact getD_at l b t
  have := hc l.length (by omega)
  have := s.lt
  omega
theorem front_not {n i : Nat} {bs : List Nat} (hi : i < bs.length) (hc : ∀ j, j < i → 128 ≤ bs.getD j 0) (hl : bs.getD i 0 < 128) (hn : n < 18446744073709551616) (hm : (i = 9 ∧ bs.getD i 0 ≠ 1) ∨ (0 < i ∧ bs.getD i 0 = 0)) : ¬ enc n <+: bs := by
  intro h
  obtain ⟨l, s, e⟩ := front_at h hi hc hl
  have hv := s.val
  have hb : i = 0 ∨ bs.getD i 0 ≠ 0 := by rcases s.last with h | h; exact Or.inr h; subst h; left; simpa using e.symm
  rcases hm with ⟨rfl, h1⟩ | ⟨h1, h2⟩
  · rw [e] at hv
    have h3 : (128 : Nat) ^ 9 = 9223372036854775808 := by decide
    rw [h3] at hv
    generalize bs.getD 9 0 = b at *
    have : 2 ≤ b := by rcases hb with h | h; omega; omega
    omega
  · omega
theorem mem_take_getD {bs : List Nat} {i x : Nat} (h : x ∈ bs.take i) : ∃ j, j < i ∧ j < bs.length ∧ bs.getD j 0 = x := by
  obtain ⟨j, hj, e⟩ := List.getElem_of_mem h
  simp at hj e
  have hj2 : j < bs.length := by omega
  exact ⟨j, by omega, hj2, by rw [← e]; simp [List.getD, hj2]⟩
theorem front_yes {i : Nat} {bs : List Nat} (hi : i < bs.length) (hby : ∀ x ∈ bs, x < 256) (hc : ∀ j, j < i → 128 ≤ bs.getD j 0) (hl : bs.getD i 0 < 128) (h0 : bs.getD i 0 ≠ 0 ∨ i = 0) :
    enc (dv (bs.take (i + 1))) = bs.take (i + 1) := by
  have h1 : (bs.take i).length = i := by rw [List.length_take]; omega
  have := enc_of (bs.take i) (bs.getD i 0) (fun x hx => by
    obtain ⟨j, hj, hj2, e⟩ := mem_take_getD hx
    exact ⟨by rw [← e]; exact hc j hj, hby x (List.mem_of_mem_take hx)⟩) hl (h0.imp id (fun h => by subst h; rfl))
  rw [dv_take bs i hi, Nat.mod_eq_of_lt hl]
  rw [h1] at this
  rw [this, List.take_add_one, List.getElem?_eq_getElem hi]
  simp [List.getD, hi]
/-- numbers with a sign -/
def zz (n : Int) : Nat := if n < 0 then (-2 * n - 1).toNat else (2 * n).toNat
theorem zz_lt {n : Int} (h1 : -9223372036854775808 ≤ n) (h2 : n ≤ 9223372036854775807) : zz n < 18446744073709551616 := by
  unfold zz; split <;> omega
/-- .. and back -/
def uz (m : Nat) : Int := if m % 2 = 1 then -((m / 2 : Nat) : Int) - 1 else ((m / 2 : Nat) : Int)
theorem uz_zz (n : Int) : uz (zz n) = n := by
  unfold zz uz; split <;> split <;> omega
theorem zz_uz (m : Nat) : zz (uz m) = m := by
  unfold uz; split <;> (unfold zz; split <;> omega)
theorem uz_bd {m : Nat} (h : m < 18446744073709551616) : -9223372036854775808 ≤ uz m ∧ uz m ≤ 9223372036854775807 := by
  unfold uz; split <;> omega
end Go.Proofs.YtkmdegmpffgplaaGreatDoor.pk
