/- texts of the model: Cte Ctf Ctg Cth Cti Ctj Ctk -/
import Derived.Test.YtjkiplndbcmmbaaGreatDoorW25
import Derived.Deep.RegionHeld3
import Derived.Deep.DeepCutAuto
import Derived.Deep.RegionLaw
import Derived.Deep.CutBlock
set_option linter.unusedVariables false
set_option linter.unusedSimpArgs false
set_option maxHeartbeats 16000000
set_option maxRecDepth 100000
namespace Go.Proofs.YtjkiplndbcmmbaaGreatDoor
open Tryz
open Go.RowKit Go.Maps
def M36 : Int := 1000000000000000000000000000000000000
structure AMap (w : World) (m n : Nat) (T : Int → Int → Bool) (b : Int → Int → Int) : Prop where
 ex : ∃ f, MapF w 141 m n f ∧ (∀ c u, Va c u → f (la c u) = if T c u then some (dv (b c u) 12) else none) ∧ (∀ key kl, keyOf prog 141 key = some kl → (f kl).isSome = true → ∃ c u, Va c u ∧ kl = la c u)
theorem AMap.but {X : Nat → Prop} {w w' : World} {m n : Nat} {T : Int → Int → Bool} {b : Int → Int → Int} (h : AMap w m n T b) (k : But X w w') (hm : ¬ X m) : AMap w' m n T b := by
 obtain ⟨f, h1, h2⟩ := h.ex; exact ⟨f, h1.but k hm, h2⟩
theorem AMap.step {w w' : World} {m n : Nat} {T : Int → Int → Bool} {b : Int → Int → Int} (h : AMap w m n T b) (k : Below w.heap.size w w') : AMap w' m n T b := by
 obtain ⟨f, h1, h2⟩ := h.ex; exact ⟨f, h1.step k, h2⟩
theorem AMap.lt {w : World} {m n : Nat} {T : Int → Int → Bool} {b : Int → Int → Int} (h : AMap w m n T b) : m < w.heap.size := by
 obtain ⟨f, h1, h2⟩ := h.ex; exact h1.lt
theorem iI (w : World) (b : Int → Int → Int) : AMap (w.alloc (.map #[] 0)) w.heap.size 0 (fun _ _ => false) b :=
 ⟨_, ep w _, fun c u _ => by simp, fun key kl _ h => by simp at h⟩
def allLa : List Lit := (accs 32).map fun p => la p.1 p.2
theorem nG : allLa.length = 32 := by simp [allLa, cZ]
theorem AMap.fit {w : World} {m n : Nat} {T : Int → Int → Bool} {b : Int → Int → Int} (h : AMap w m n T b) : AMap w m 32 T b := by
 obtain ⟨f, h1, h2, h3⟩ := h.ex
 refine ⟨f, ?_, h2, h3⟩
 rw [← nG]
 refine h1.fit keyedA _ (fun key kl hk hs => ?_)
 obtain ⟨c, u, hv, rfl⟩ := h3 key kl hk hs
 obtain ⟨i, hi, he⟩ := jT hv
 exact List.mem_map.2 ⟨(c, u), List.mem_of_getElem? (by rw [dP hi, he]), rfl⟩
theorem AMap.put {w' : World} {m n : Nat} {T : Int → Int → Bool} {b : Int → Int → Int} {f : Lit → Option Value} (h2 : ∀ c u, Va c u → f (la c u) = if T c u then some (dv (b c u) 12) else none) (h3 : ∀ key kl, keyOf prog 141 key = some kl → (f kl).isSome = true → ∃ c u, Va c u ∧ kl = la c u)
  {c u z : Int} (hv : Va c u) (h : MapF w' 141 m n (upF f (la c u) (dv z 12))) : AMap w' m n (fun c' u' => T c' u' || decide (c' = c ∧ u' = u)) (fun c' u' => if c' = c ∧ u' = u then z else b c' u') := by
 refine ⟨_, h, fun c' u' hv' => ?_, fun key kl hk hs => ?_⟩
 ·by_cases e : c' = c ∧ u' = u
  ·obtain ⟨rfl, rfl⟩ := e
   rw [dq f (keyedA.key hv.key)]
   simp
  ·rw [bC f _ (uH hv' hv e), h2 c' u' hv', decide_eq_false e, if_neg e, Bool.or_false]
 ·by_cases e : kl = la c u
  ·exact ⟨c, u, hv, e⟩
  ·rw [bC f _ e] at hs
   exact h3 key kl hk hs
theorem AMap.congr {w : World} {m n : Nat} {T T' : Int → Int → Bool} {b b' : Int → Int → Int} (h : AMap w m n T b) (hT : ∀ c u, Va c u → T c u = T' c u) (hb : ∀ c u, Va c u → T c u = true → b c u = b' c u) : AMap w m n T' b' := by
 obtain ⟨f, h1, h2, h3⟩ := h.ex
 refine ⟨f, h1, fun c u hv => ?_, h3⟩
 rw [h2 c u hv, ← hT c u hv]
 cases e : T c u
 ·rfl
 ·simp only [if_true]
  rw [hb c u hv e]
structure Led (w : World) (p m : Nat) (b : Int → Int → Int) (n : Int) : Prop where
 rng : ∀ c u, Va c u → -M36 ≤ b c u ∧ b c u ≤ M36
 va : VA w p [.map (some m), .int .i64 n] 144
 map : AMap w m 32 (fun _ _ => true) b
theorem Led.but {X : Nat → Prop} {w w' : World} {p m : Nat} {b : Int → Int → Int} {n : Int} (h : Led w p m b n) (k : But X w w') (hp : ¬ X p) (hm : ¬ X m) : Led w' p m b n := ⟨h.rng, h.va.but k hp, h.map.but k hm⟩
theorem Led.step {w w' : World} {p m : Nat} {b : Int → Int → Int} {n : Int} (h : Led w p m b n) (k : Below w.heap.size w w') : Led w' p m b n := ⟨h.rng, h.va.step k, h.map.step k⟩
theorem Led.ne {w : World} {p m : Nat} {b : Int → Int → Int} {n : Int} (h : Led w p m b n) : m ≠ p := by
 obtain ⟨f, h1, _⟩ := h.map.ex
 rintro rfl
 obtain ⟨D, ⟨es, clock, hb, _⟩, _⟩ := h1
 have := h.va.blk
 rw [hb] at this
 cases this
theorem VA.notM {w : World} {p m n : Nat} {cs : List Value} {S : TypeId} {T : Int → Int → Bool} {b : Int → Int → Int} (h : VA w p cs S) (a : AMap w m n T b) : p ≠ m := by
 obtain ⟨f, h1, _⟩ := a.ex
 rintro rfl
 obtain ⟨D, ⟨es, clock, hb, _⟩, _⟩ := h1
 have := h.blk
 rw [hb] at this
 cases this
theorem sP (w : World) : Calls prog 51 #[] w fun e w' => (∃ p m, e = .returned (.pointer (some ⟨p, 0, none⟩)) ∧ w.heap.size ≤ p ∧ w.heap.size ≤ m ∧ Led w' p m (fun _ _ => 0) 0) ∧ Below w.heap.size w w' := by
 have hmm := @run_makeMap prog
 have HM0 := hI_ (iI w (fun _ _ => 0))
 have HB0 := hI_ ((Below.refl w.heap.size w).alloc (Nat.le_refl _) (.map #[] 0))
 go_enter func51, ntmps51
 go_wp2_with fail
 refine (ge _).mono ?_
 rintro e w1 ⟨⟨v, rfl, o1⟩, b1⟩
 have HM1 := hI_ (HM0.out.step b1)
 have HB1 := hI_ (HB0.out.trans (b1.mono (by simp)))
 clear b1 HM0 HB0
 obtain ⟨va, vc, rfl, l1, l2⟩ := o1.form
 rw [cZ] at o1 l1 ⊢
 have HO1 := hI_ o1
 clear o1
 rw [World.size_alloc] at HO1
 generalize hq : w.heap.size = q at *
 have HQ := hI_ hq
 clear hq
 go_wp2_with fail
 go_loopw [7] (fun i wr => ∃ k : Nat, k ≤ 32 ∧ i = .int .i64 (k : Int) ∧ Hid (AMap wr q k (fun c u => decide (∃ j, j < k ∧ acc j = (c, u))) (fun _ _ => 0)) ∧ Hid (Below q w wr) ∧ Hid (Own AC wr (q + 1) (.slice va 32 vc) (accs 32))) (fun i _ => 32 - (intOf i).toNat)
 case atStart => exact ⟨0, by omega, rfl, HM1.out.congr (fun c u _ => by simp) (fun _ _ _ h => by simp at h), HB1.out, HO1.out⟩
 case round =>
  obtain ⟨k, hk, rfl, HM, HB, HO⟩ := hrel
  by_cases h32 : k = 32
  ·subst h32
   go_wp2_with fail
   go_ret
   refine ⟨⟨_, q, rfl, by have := HB.out.size; have := HQ.out; omega, by have := HQ.out; omega, ⟨fun c u _ => by decide, aa wr [.map (some q), .int .i64 0] 144, (HM.out.congr (fun c u hv => ?_) (fun _ _ _ _ => rfl)).step ((Below.refl _ _).alloc (Nat.le_refl _) _)⟩⟩, by rw [HQ.out]; exact HB.out.alloc (by have := HB.out.size; have := HQ.out; omega) _⟩
   obtain ⟨i, hi, he⟩ := jT hv
   exact decide_eq_true ⟨i, hi, he⟩
  have hk' : k < 32 := by omega
  obtain ⟨b, off, e, hb, hc⟩ := HO.out.sl.at k (acc k) (dP hk')
  cases e
  have hva := lG hk'
  generalize hac : acc k = x at *
  obtain ⟨x0, x1⟩ := x
  have c0 : wr.cell? ⟨b, off + k * 2, none⟩ = some (.int .i64 x0) := hc 0 _ rfl
  have c1 : wr.cell? ⟨b, off + k * 2 + 1, none⟩ = some (.int .i64 x1) := hc 1 _ rfl
  have HAC := hI_ hac
  have HVA : Hid (Va x0 x1) := hva
  clear hc hb hac hva
  have d1 : (0 : Int) ≤ (k : Int) := by omega
  have d2 : (k : Int) < 32 := by omega
  go_upto_region 5 with fail
  have BA := (Below.refl wr.heap.size wr).alloc (Nat.le_refl _) (.cells #[.int .i64 x0, .int .i64 x1] 141)
  have HV := aa wr [.int .i64 x0, .int .i64 x1] 141
  have HM2 := hI_ (HM.out.step BA)
  have HO2 := hI_ (HO.out.step BA)
  have HB2 := hI_ (HB.out.trans (BA.mono (by have := HB.out.size; have := HQ.out; omega)))
  clear BA c0 c1 HM HO HB
  generalize wr.heap.size = pa at *
  generalize wr.alloc (.cells #[.int .i64 x0, .int .i64 x1] 141) = w2 at *
  have HV2 := hI_ HV
  refine wp_region_noPanic ?_
  refine wp_region_held_drew (S := fun w' => VA w' pa [.int .i64 x0, .int .i64 x1] 141) (by kernel_rfl) HV.drew (fun hh_ => ?_)
  clear HV
  refine tL 0 11 (.map (some q)) ?_ ?_
  ·intro wq hS
   go_simp
  try simp only [nrm]
  refine tL 1 12 (.agg #[.int .i64 x0, .int .i64 x1]) ?_ ?_
  ·intro wq hS
   have c := hS.cell 0 (v := .int .i64 x0) rfl
   have d := hS.cell 1 (v := .int .i64 x1) rfl
   go_simp
  try simp only [nrm]
  clear hh_
  refine rdy 2 (fun K hK => ?_)
  go_simp
  refine (oK _).mono ?_
  rintro e w3 ⟨rfl, b3⟩
  have b3 : Below w2.heap.size w2 w3 := ((Below.refl w2.heap.size w2).drew).trans b3
  have HM3 := hI_ (HM2.out.step b3)
  have HO3 := hI_ (HO2.out.step b3)
  have HV3 := hI_ (HV2.out.step b3)
  have HB3 := hI_ (HB2.out.trans (b3.mono (by have := HB2.out.size; have := HQ.out; omega)))
  clear b3 HM2 HO2 HV2 HB2
  go_wp2_with fail
  refine hK.out _ _ HV3.out (fun hh_ => ?_)
  clear hK K hh_
  try simp only [nrm]
  refine rdy 3 (fun K hK => ?_)
  obtain ⟨f, m1, m2, m3⟩ := HM3.out.ex
  refine ur (by rfl) _ _ _ 142 (by rfl) 141 44 keyedA underlying142 q k f (by rfl) m1 (by unfold maxLen; omega) (.agg #[.int .i64 x0, .int .i64 x1]) (dv 0 12) (la x0 x1) (by rfl) (by rfl) HVA.out.key ?_
  intro w4 m4 t4
  have M4 := AMap.put m2 m3 HVA.out m4
  have U4 := aI t4
  refine hK.out _ _ (HV3.out.but U4 (HV3.out.notM HM3.out)) (fun hh_ => ?_)
  clear hK K hh_
  refine dN ?_
  have HM4 := hI_ M4
  have HB4 := hI_ (HB3.out.trans (U4.below (by have := HB3.out.size; have := HQ.out; omega) (fun i (hi : i = q) => by omega)))
  have HO4 := hI_ (HO3.out.but U4 (fun g hg (e : g = q) => by have := HO3.out.block g hg; omega))
  clear M4 U4 m4 t4 m1 m2 m3
  go_wp2_with fail
  refine ⟨⟨k + 1, by omega, by go_num, ?_, HB4.out, HO4.out⟩, by simp [intOf]; omega⟩
  refine HM4.out.congr (fun c u hv => ?_) (fun c u _ _ => by simp)
  rw [← Bool.decide_or]
  refine decide_eq_decide.2 ⟨?_, ?_⟩
  ·rintro (⟨j, hj, e⟩ | ⟨rfl, rfl⟩)
   ·exact ⟨j, by omega, e⟩
   ·exact ⟨k, by omega, HAC.out⟩
  ·rintro ⟨j, hj, e⟩
   by_cases h : j = k
   ·subst h
    rw [HAC.out] at e
    cases e
    exact Or.inr ⟨rfl, rfl⟩
   ·exact Or.inl ⟨j, by omega, e⟩
def M32 : Int := 100000000000000000000000000000000
def Ln.un (x : Ln) : Int := x.cf * (10 : Int) ^ (12 - x.s.toNat)
def sat (ls : List Ln) (c u : Int) : Int := (ls.map (fun x => if x.code = c ∧ x.cur = u then x.un else 0)).sum
def tch (ls : List Ln) (c u : Int) : Bool := ls.any (fun x => decide (x.code = c ∧ x.cur = u))
def sau (ls : List Ln) (u : Int) : Int := (ls.map (fun x => if x.cur = u then x.un else 0)).sum
def tcu (ls : List Ln) (u : Int) : Bool := ls.any (fun x => decide (x.cur = u))
theorem gq {n : Nat} (h : n ≤ 12) : (10 : Int) ^ n * (10 : Int) ^ (12 - n) = 1000000000000 := by
 rw [← Int.pow_add, show n + (12 - n) = 12 by omega]
 decide
theorem ek {x : Ln} (hx : x.wf) (ho : x.ok = true) : ∃ (c : Int) (n : Nat), x.h = dhi c ∧ x.l = dlo c ∧ x.s = (n : Int) ∧ n ≤ 12 ∧ InR c ∧ x.cf = c ∧ x.un = c * (10 : Int) ^ (12 - n) ∧ -M32 ≤ x.un ∧ x.un ≤ M32 := by
 unfold Ln.ok at ho
 simp only [Bool.and_eq_true, decide_eq_true_eq, Bool.not_eq_true'] at ho
 obtain ⟨⟨s0, s1⟩, hf⟩ := ho
 have hf2 := of_decide_eq_false hf
 rcases gS x.h x.l x.s hx.h hx.l with hb | ⟨c, n, h1, h2, h3, ic, hn⟩
 ·rcases hb with hb | ⟨e1, e2⟩
  ·omega
  ·exfalso
   have hp : (0 : Int) < (10 : Int) ^ x.s.toNat ∧ (10 : Int) ^ x.s.toNat ≤ 10 ^ 12 := ⟨Int.pow_pos (by decide), qQ (by omega)⟩
   apply hf2
   right
   unfold Ln.cf
   rw [e1, e2]
   generalize (10 : Int) ^ x.s.toNat = p at *
   unfold M20
   have h12 : (10 : Int) ^ 12 = 1000000000000 := by decide
   omega
 ·have ec : x.cf = c := uD (s := x.s) h1 h2
  have es : x.s.toNat = n := by rw [h3]; exact Int.toNat_natCast n
  rw [es, ec] at hf2
  have eu : x.un = c * (10 : Int) ^ (12 - n) := by unfold Ln.un; rw [ec, es]
  refine ⟨c, n, h1, h2, h3, by omega, ic, ec, eu, ?_, ?_⟩
  ·rw [eu]
   have hp : (0 : Int) < (10 : Int) ^ (12 - n) := Int.pow_pos (by decide)
   have := Int.mul_le_mul_of_nonneg_right (show -(M20 * (10 : Int) ^ n) ≤ c by omega) (Int.le_of_lt hp)
   rw [Int.neg_mul, Int.mul_assoc, gq (by omega)] at this
   unfold M32; unfold M20 at this; omega
  ·rw [eu]
   have hp : (0 : Int) < (10 : Int) ^ (12 - n) := Int.pow_pos (by decide)
   have := Int.mul_le_mul_of_nonneg_right (show c ≤ M20 * (10 : Int) ^ n by omega) (Int.le_of_lt hp)
   rw [Int.mul_assoc, gq (by omega)] at this
   unfold M32; unfold M20 at this; omega
theorem mt (f : Ln → Int) : ∀ (ls : List Ln), (∀ x ∈ ls, -M32 ≤ f x ∧ f x ≤ M32) → -((ls.length : Int) * M32) ≤ (ls.map f).sum ∧ (ls.map f).sum ≤ (ls.length : Int) * M32
 | [], _ => by simp
 | x :: ls, h => by
  have h1 := h x (List.mem_cons_self ..)
  have h2 := mt f ls (fun y hy => h y (List.mem_cons_of_mem _ hy))
  simp only [List.map_cons, List.sum_cons, List.length_cons]
  rw [show (((ls.length + 1 : Nat) : Int)) * M32 = (ls.length : Int) * M32 + M32 by rw [Int.natCast_add, Int.add_mul]; simp]
  omega
theorem rC {ls : List Ln} (h : ∀ x ∈ ls, x.wf ∧ x.ok = true) (c u : Int) : -((ls.length : Int) * M32) ≤ sat ls c u ∧ sat ls c u ≤ (ls.length : Int) * M32 :=
 mt _ ls (fun x hx => by
  obtain ⟨_, _, _, _, _, _, _, _, _, h1, h2⟩ := ek (h x hx).1 (h x hx).2
  by_cases e : x.code = c ∧ x.cur = u
  ·rw [if_pos e]; exact ⟨h1, h2⟩
  ·rw [if_neg e]; decide)
theorem wo {ls : List Ln} (h : ∀ x ∈ ls, x.wf ∧ x.ok = true) (u : Int) : -((ls.length : Int) * M32) ≤ sau ls u ∧ sau ls u ≤ (ls.length : Int) * M32 :=
 mt _ ls (fun x hx => by
  obtain ⟨_, _, _, _, _, _, _, _, _, h1, h2⟩ := ek (h x hx).1 (h x hx).2
  by_cases e : x.cur = u
  ·rw [if_pos e]; exact ⟨h1, h2⟩
  ·rw [if_neg e]; decide)
theorem ja {ls : List Ln} {k : Nat} {x : Ln} (hx : ls[k]? = some x) : ls.take (k + 1) = ls.take k ++ [x] := by rw [List.take_add_one, hx]; rfl
theorem rD (ls : List Ln) (x : Ln) (c u : Int) : sat (ls ++ [x]) c u = sat ls c u + if x.code = c ∧ x.cur = u then x.un else 0 := by simp [sat]
theorem rM (ls : List Ln) (x : Ln) (c u : Int) : tch (ls ++ [x]) c u = (tch ls c u || decide (x.code = c ∧ x.cur = u)) := by simp [tch]
theorem rF (ls : List Ln) (x : Ln) (u : Int) : sau (ls ++ [x]) u = sau ls u + if x.cur = u then x.un else 0 := by simp [sau]
theorem rN (ls : List Ln) (x : Ln) (u : Int) : tcu (ls ++ [x]) u = (tcu ls u || decide (x.cur = u)) := by simp [tcu]
theorem im {ls : List Ln} {c u : Int} (h : tch ls c u = false) : sat ls c u = 0 := by
 induction ls with
 | nil => rfl
 | cons x ls ih =>
  simp only [tch, List.any_cons, Bool.or_eq_false_iff, decide_eq_false_iff_not] at h
  have := ih h.2
  simp only [sat, List.map_cons, List.sum_cons, if_neg h.1] at this ⊢
  omega
theorem gV {z : Int} (h : -(4 * M36) ≤ z ∧ z ≤ 4 * M36) : InR z := by
 unfold M36 at h
 refine ⟨?_, ?_⟩ <;> (unfold M127; omega)
theorem tV (x : Ln) (hx : x.wf) (ho : x.ok = true) (z : Int) (hz : -(2 * M36) ≤ z ∧ z ≤ 2 * M36) (w : World) :
  Calls prog 198 #[dv z 12, .agg #[.int .i64 x.h, .int .u64 x.l, .int .i64 x.s]] w fun e w' => e = .returned (dv (z + x.un) 12) ∧ Below w.heap.size w w' := by
 obtain ⟨c, n, h1, h2, h3, hn, ic, ec, eu, b1, b2⟩ := ek hx ho
 have et : tv z 12 c n = z + x.un := by
  unfold tv
  rw [Nat.max_eq_left hn, eu]
  simp
 have := kh z c 12 n w (gV (by omega)) ic (by decide) (by omega) (by rw [et]; exact gV (by unfold M32 M36 at *; omega))
 rw [et, Nat.max_eq_left hn] at this
 rw [h1, h2, h3]
 exact this
theorem lkS {w : World} {ops : Array Oper} {rest : List Oper} {o : Oper} {a : Act} {Q : Exit → Act → World → Prop} (hg : o.guard = none) (m x : Operand) (t : TypeId) (hop : o.op = Op.lookup t m x true)
  (k e : TypeId) (K : Keyed prog k) (ht : prog.underlying t = some (.map k e)) (z : Value) (hz : (zeroValue e).run prog w = .ok z w) (b n : Nat) (f : Lit → Option Value) (hm : a.eval m = .map (some b)) (h : MapF w k b n f)
  (key : Value) (kl : Lit) (hx : a.eval x = key) (hkey : keyOf prog k key = some kl) (v : Value) (hv : f kl = some v)
  (hK : wpList prog ops Q rest (a.put o.dst (.tuple #[v, .bool true])) w) : wpList prog ops Q (o :: rest) a w :=
 lkM hg m x t hop k e K ht z hz b n f hm h key kl hx hkey (by rw [hv]; exact hK)
theorem lkN {w : World} {ops : Array Oper} {rest : List Oper} {o : Oper} {a : Act} {Q : Exit → Act → World → Prop} (hg : o.guard = none) (m x : Operand) (t : TypeId) (hop : o.op = Op.lookup t m x true)
  (k e : TypeId) (K : Keyed prog k) (ht : prog.underlying t = some (.map k e)) (z : Value) (hz : (zeroValue e).run prog w = .ok z w) (b n : Nat) (f : Lit → Option Value) (hm : a.eval m = .map (some b)) (h : MapF w k b n f)
  (key : Value) (kl : Lit) (hx : a.eval x = key) (hkey : keyOf prog k key = some kl) (hv : f kl = none)
  (hK : wpList prog ops Q rest (a.put o.dst (.tuple #[z, .bool false])) w) : wpList prog ops Q (o :: rest) a w :=
 lkM hg m x t hop k e K ht z hz b n f hm h key kl hx hkey (by rw [hv]; exact hK)
theorem lD (w : World) : (zeroValue 44).run prog w = .ok (.agg #[.int .i64 0, .int .u64 0, .int .i64 0]) w := by kernel_rfl
theorem dA : (prog.info? 44).map (·.size) = some 3 := by kernel_rfl
theorem stD {w : World} {y : Nat → Option Bool} {o : Oper} {a : Act} {Q : Exit → Act → World → Prop} {K : Act → World → Prop} {k0 : Prop} (hgd : Region.wanted o y = true) (hd : o.dst = none) (t : TypeId) (x z : Operand) (ho : o.op = .store t x z)
  (p : Nat) (hx : a.eval x = .pointer (some ⟨p, 0, none⟩)) (cs ds : List Value) (hy : a.eval z = .agg ds.toArray) (T : TypeId) (h : VA w p cs T) (hi : (prog.info? t).map (·.size) = some ds.length) (hl : cs.length = ds.length) (h1 : ∀ v ∈ ds, v.oneCell' = true)
  (k : ∀ w', VA w' p ds T → Upd p w w' → K a w') : if Region.wanted o y = true then o.wp prog a w K Q else k0 := by
 have k : ∀ w', VA w' p ds T → Upd p w w' → K (a.put o.dst undef) w' := fun w' v u => by rw [hd]; exact k w' v u
 rw [if_pos hgd]
 have hrun := run_storeVar_row (P := prog) w p T t cs.toArray ds.toArray h.blk (by simpa using hi) (by simpa using hl) (Array.all_eq_true_iff_forall_mem.2 (fun v hv => h1 v (by simpa using hv)))
 unfold Oper.wp execOp
 simp only [ho, hx, hy, Instr.storeAt, Instr.sureAddr, Sem.run_bind, Sem.run_pure, Result.andThen_ok, hrun]
 exact k _ ⟨setRow_heap w p _ _ _ _ h.blk⟩ (cK w p _)
theorem mM (z : Int) : ∀ v ∈ ([.int .i64 (dhi z), .int .u64 (dlo z), .int .i64 12] : List Value), v.oneCell' = true := by
 intro v hv
 simp at hv
 rcases hv with rfl | rfl | rfl <;> rfl
theorem Ln.va {x : Ln} (h : x.pl = true) : Va x.code x.cur := by
 unfold Ln.pl wi at h
 simp only [Bool.and_eq_true, decide_eq_true_eq] at h
 exact ⟨h.1.1, h.1.2, h.2.1, h.2.2⟩
theorem pi (p m : Nat) (b : Int → Int → Int) (nn : Int) (v : Value) (ls : List Ln) (w : World) (L : Led w p m b nn) (h : Sl LN w v ls) (hg : ∀ x ∈ ls, x.wf ∧ x.pl = true ∧ x.ok = true) (hl : ls.length ≤ 16) :
  Calls prog 178 #[.pointer (some ⟨p, 0, none⟩), v] w fun e w' => e = .returned (.map (some w.heap.size)) ∧ AMap w' w.heap.size 16 (tch ls) (fun c u => b c u + sat ls c u) ∧ Below w.heap.size w w' := by
 obtain ⟨n, hn⟩ : ∃ n, n = ls.length := ⟨_, rfl⟩
 have H := hI_ h
 obtain ⟨ta, tc, rfl, g1, g2⟩ : ∃ a c, v = .slice a n c ∧ n ≤ c ∧ c ≤ 9223372036854775807 := by obtain ⟨a, c, e, h1, h2, _⟩ := h; exact ⟨a, c, by rw [hn]; exact e, by rw [hn]; exact h1, h2⟩
 have HN := hI_ hn
 have HL16 := hI_ hl
 have HG := hI_ hg
 have HLd := hI_ L
 clear h hn hl hg L
 have hmm := @run_makeMap prog
 have HM0 := hI_ (iI w b)
 have HB0 := hI_ ((Below.refl w.heap.size w).alloc (Nat.le_refl _) (.map #[] 0))
 go_enter func178, ntmps178
 go_wp2_with fail
 generalize hq : w.heap.size = q at *
 have HQ := hI_ hq
 clear hq
 go_loopw [14] (fun i wr => ∃ k : Nat, k ≤ n ∧ i = .int .i64 (k : Int) ∧ Hid (AMap wr q k (tch (ls.take k)) (fun c u => b c u + sat (ls.take k) c u)) ∧ Hid (Below q w wr)) (fun i _ => n - (intOf i).toNat)
 case atStart => exact ⟨0, by omega, rfl, HM0.out.congr (fun c u _ => rfl) (fun c u _ h => by simp at h), HB0.out⟩
 case round =>
  obtain ⟨k, hk, rfl, HM, HB⟩ := hrel
  by_cases hkn : k = n
  ·subst hkn
   go_wp2_with fail
   go_ret
   refine ⟨by rw [HQ.out]; rfl, ?_, by rw [HQ.out]; exact HB.out⟩
   have hm := HM.out
   rw [HN.out, List.take_length] at hm
   rw [HQ.out]
   obtain ⟨f, m1, m2⟩ := hm.ex
   exact ⟨f, m1.mono HL16.out, m2⟩
  have hk' : k < n := by omega
  obtain ⟨x, hx⟩ : ∃ x, ls[k]? = some x := ⟨ls[k]'(by have := HN.out; omega), by simp⟩
  have hgx := HG.out x (List.mem_of_getElem? hx)
  obtain ⟨bb, off, e, hb, hc⟩ := (H.out.step (w' := wr) (by rw [HQ.out]; exact HB.out)).at k x hx
  cases e
  have hva := Ln.va hgx.2.1
  have HPL := hI_ (fun z hz w => tV x hgx.1 hgx.2.2 z hz w)
  have hts := ja hx
  have HS : Hid (∀ c u, Va c u → sat (ls.take (k + 1)) c u = sat (ls.take k) c u + if x.code = c ∧ x.cur = u then x.un else 0) := fun c u _ => by rw [hts, rD]
  have HT : Hid (∀ c u, Va c u → tch (ls.take (k + 1)) c u = (tch (ls.take k) c u || decide (x.code = c ∧ x.cur = u))) := fun c u _ => by rw [hts, rM]
  have HSB : Hid (∀ c u, Va c u → -(2 * M36) ≤ b c u + sat (ls.take k) c u ∧ b c u + sat (ls.take k) c u ≤ 2 * M36) := fun c u hv => by
   have h1 := HLd.out.rng c u hv
   have h2 := rC (ls := ls.take k) (fun y hy => by have := HG.out y (List.mem_of_mem_take hy); exact ⟨this.1, this.2.2⟩) c u
   have h3 : (ls.take k).length ≤ 16 := by rw [List.length_take]; have := HL16.out; omega
   have h4 : (((ls.take k).length : Int)) * M32 ≤ 16 * M32 := Int.mul_le_mul_of_nonneg_right (by omega) (by decide)
   unfold M36 M32 at *
   omega
  obtain ⟨x0, x1, x2, x3, x4⟩ := x
  simp only at hva HPL HS HT
  have c0 : wr.cell? ⟨bb, off + k * 5, none⟩ = some (.int .i64 x0) := hc 0 _ rfl
  have c1 : wr.cell? ⟨bb, off + k * 5 + 1, none⟩ = some (.int .i64 x1) := hc 1 _ rfl
  have c2 : wr.cell? ⟨bb, off + k * 5 + 2, none⟩ = some (.int .i64 x2) := hc 2 _ rfl
  have c3 : wr.cell? ⟨bb, off + k * 5 + 3, none⟩ = some (.int .u64 x3) := hc 3 _ rfl
  have c4 : wr.cell? ⟨bb, off + k * 5 + 4, none⟩ = some (.int .i64 x4) := hc 4 _ rfl
  have HVA : Hid (Va x0 x1) := hva
  clear hc hb hx hgx hva hts
  have d1 : (0 : Int) ≤ (k : Int) := by omega
  have d2 : (k : Int) < (n : Int) := by omega
  obtain ⟨f, m1, m2, m3⟩ := HM.out.ex
  have mf := m2 x0 x1 HVA.out
  have HM1 : Hid (MapF wr 141 q k f) := m1
  have HM2 := hI_ m2
  have HM3 := hI_ m3
  clear m1 m2 m3 HM
  obtain ⟨z, hz⟩ : ∃ z, z = b x0 x1 + sat (ls.take k) x0 x1 := ⟨_, rfl⟩
  rw [← hz] at mf
  have HZ := hI_ hz
  have HZB : Hid (-(2 * M36) ≤ z ∧ z ≤ 2 * M36) := by rw [hz]; exact HSB.out x0 x1 HVA.out
  clear hz HSB
  have BA := ((Below.refl wr.heap.size wr).alloc (Nat.le_refl _) (.cells #[.int .i64 x0, .int .i64 x1, .int .i64 x2, .int .u64 x3, .int .i64 x4] 91)).alloc (by simp) (.cells #[.int .i64 x0, .int .i64 x1] 141)
  have HBA := hI_ BA
  clear BA
  cases ht : tch (ls.take k) x0 x1
  ·rw [ht] at mf
   have HTT := hI_ ht
   have HMF := hI_ mf
   clear ht mf
   go_upto_region 8 with (refine lkN rfl _ _ 142 rfl 141 44 keyedA underlying142 _ (lD _) q k f (by rfl) (HM1.out.step HBA.out) (.agg #[.int .i64 x0, .int .i64 x1]) (la x0 x1) (by rfl) HVA.out.key HMF.out ?_)
   have V7 := ((aa wr [.int .i64 x0, .int .i64 x1, .int .i64 x2, .int .u64 x3, .int .i64 x4] 91).alloc (.cells #[.int .i64 x0, .int .i64 x1] 141)).alloc (.cells #[.int .i64 0, .int .u64 0, .int .i64 0] 44)
   have V8 := (aa (wr.alloc (.cells #[.int .i64 x0, .int .i64 x1, .int .i64 x2, .int .u64 x3, .int .i64 x4] 91)) [.int .i64 x0, .int .i64 x1] 141).alloc (.cells #[.int .i64 0, .int .u64 0, .int .i64 0] 44)
   have V9 := aa ((wr.alloc (.cells #[.int .i64 x0, .int .i64 x1, .int .i64 x2, .int .u64 x3, .int .i64 x4] 91)).alloc (.cells #[.int .i64 x0, .int .i64 x1] 141)) [.int .i64 0, .int .u64 0, .int .i64 0] 44
   rw [World.size_alloc] at V8
   rw [World.size_alloc, World.size_alloc] at V9
   have BB := HBA.out.alloc HBA.out.size (.cells #[.int .i64 0, .int .u64 0, .int .i64 0] 44)
   have HMX : Hid (MapF _ 141 q k f) := HM1.out.step BB
   have HBX := hI_ (HB.out.trans (BB.mono (by have := HB.out.size; have := HQ.out; omega)))
   have HLX := hI_ (HLd.out.step (by rw [HQ.out]; exact HBX.out))
   have hqq : q ≤ wr.heap.size := (by have := HB.out.size; have := HQ.out; omega)
   have HQQ := hI_ hqq
   clear hqq BB HBA HM1 HB c0 c1 c2 c3 c4
   generalize wr.heap.size = q7 at *
   generalize ((wr.alloc (.cells #[.int .i64 x0, .int .i64 x1, .int .i64 x2, .int .u64 x3, .int .i64 x4] 91)).alloc (.cells #[.int .i64 x0, .int .i64 x1] 141)).alloc (.cells #[.int .i64 0, .int .u64 0, .int .i64 0] 44) = w2 at *
   have HV7 := hI_ V7
   have HV8 := hI_ V8
   have HV9 := hI_ V9
   clear V7 V8 V9
   obtain ⟨rng, lva, lmap⟩ := HLX.out
   obtain ⟨g, l1, l2, l3⟩ := lmap.ex
   have lg : g (la x0 x1) = some (.agg #[.int .i64 (dhi (b x0 x1)), .int .u64 (dlo (b x0 x1)), .int .i64 12]) := l2 x0 x1 HVA.out
   have hzb : b x0 x1 = z := by rw [HZ.out, im HTT.out, Int.add_zero]
   rw [hzb] at lg
   have HLG := hI_ lg
   have HL1 : Hid (MapF w2 141 m 32 g) := l1
   have HLV := hI_ lva
   have hpm := hI_ HLX.out.ne
   have hp9 : Hid (p ≠ q7 + 1 + 1) := by
    rintro rfl
    have h1 := lva.blk
    rw [HV9.out.blk] at h1
    cases h1
   have hm9 : Hid (m ≠ q7 + 1 + 1) := fun e => (HV9.out.notM lmap) e.symm
   clear rng lva lmap l1 l2 l3 lg hzb
   refine wp_region_noPanic ?_
   refine wp_region_held_drew (S := fun w' => VA w' p [.map (some m), .int .i64 nn] 144 ∧ VA w' (q7 + 1) [.int .i64 x0, .int .i64 x1] 141 ∧ MapF w' 141 m 32 g) (by kernel_rfl) ⟨HLV.out.drew, HV8.out.drew, HL1.out.step (Below.refl _ _).drew⟩ (fun hh_ => ?_)
   refine tL 0 31 (.pointer (some ⟨p, 0, none⟩)) ?_ ?_
   ·intro wq hS
    go_simp
   try simp only [nrm]
   refine tL 1 32 (.pointer (some ⟨p, 0, none⟩)) ?_ ?_
   ·intro wq hS
    go_simp
   try simp only [nrm]
   refine tL 2 33 (.pointer (some ⟨p, 0, none⟩)) ?_ ?_
   ·intro wq hS
    go_simp
   try simp only [nrm]
   refine tL 3 34 (.map (some m)) ?_ ?_
   ·intro wq hS
    have e0 := hS.1.cell 0 (v := .map (some m)) rfl
    go_simp
   try simp only [nrm]
   refine tL 4 35 (.agg #[.int .i64 x0, .int .i64 x1]) ?_ ?_
   ·intro wq hS
    have e0 := hS.2.1.cell 0 (v := .int .i64 x0) rfl
    have e1 := hS.2.1.cell 1 (v := .int .i64 x1) rfl
    go_simp
   try simp only [nrm]
   refine tL 5 36 (.agg #[.int .i64 (dhi z), .int .u64 (dlo z), .int .i64 12]) ?_ ?_
   ·intro wq hS
    have e0 := hS.2.2.look keyedA underlying142 (lD wq) HVA.out.key
    rw [HLG.out] at e0
    unfold ka at e0
    go_simp
   try simp only [nrm]
   clear hh_
   refine rdy 6 (fun K hK => ?_)
   skip
   refine stD (by rfl) (by rfl) 44 _ _ (by rfl) (q7 + 1 + 1) (by rfl) [.int .i64 0, .int .u64 0, .int .i64 0] [.int .i64 (dhi z), .int .u64 (dlo z), .int .i64 12] (by rfl) 44 HV9.out.drew dA rfl (mM z) ?_
   intro w3 v3 u3
   have U3 := u3.but
   have HMY : Hid (MapF w3 141 q k f) := (HMX.out.step (Below.refl _ _).drew).but U3 (fun e => (HV9.out.notM (m := q) (n := k) (T := fun c u => tch (ls.take k) c u) (b := fun c u => b c u + sat (ls.take k) c u) ⟨f, HMX.out, HM2.out, HM3.out⟩) e.symm)
   have HX7 := hI_ ((HV7.out.drew).but U3 (by omega))
   have HX8 := hI_ ((HV8.out.drew).but U3 (by omega))
   have HX9 := hI_ v3
   have HBY := hI_ (HBX.out.trans ((((Below.refl w2.heap.size w2).drew).mono (by have := HBX.out.size; have := HQ.out; omega)).trans (U3.below (by have := HBX.out.size; have := HQ.out; simp; omega) (fun i (hi : i = q7 + 1 + 1) => by have := HQQ.out; omega))))
   have HLY := hI_ ((HLX.out.step (Below.refl _ _).drew).but U3 hp9.out hm9.out)
   refine hK.out _ _ ⟨HLY.out.va, HX8.out, (HL1.out.step (Below.refl _ _).drew).but U3 hm9.out⟩ (fun hh_ => ?_)
   clear hK K hh_ u3 U3 v3 HLY HLX HL1 HLV HMX HV7 HV8 HV9 HBX hpm hp9 hm9
   refine dN ?_
   go_upto_region 9 with fail
   refine wp_region_noPanic ?_
   refine wp_region_held_drew (S := fun w' => VA w' q7 [.int .i64 x0, .int .i64 x1, .int .i64 x2, .int .u64 x3, .int .i64 x4] 91 ∧ VA w' (q7 + 1) [.int .i64 x0, .int .i64 x1] 141 ∧ VA w' (q7 + 1 + 1) [.int .i64 (dhi z), .int .u64 (dlo z), .int .i64 12] 44) (by kernel_rfl) ⟨HX7.out.drew, HX8.out.drew, HX9.out.drew⟩ (fun hh_ => ?_)
   refine tL 0 37 (.map (some q)) ?_ ?_
   ·intro wq hS
    go_simp
   try simp only [nrm]
   refine tL 1 38 (.agg #[.int .i64 x0, .int .i64 x1]) ?_ ?_
   ·intro wq hS
    have e0 := hS.2.1.cell 0 (v := .int .i64 x0) rfl
    have e1 := hS.2.1.cell 1 (v := .int .i64 x1) rfl
    go_simp
   try simp only [nrm]
   refine tL 2 39 (.agg #[.int .i64 (dhi z), .int .u64 (dlo z), .int .i64 12]) ?_ ?_
   ·intro wq hS
    have e0 := hS.2.2.cell 0 (v := .int .i64 (dhi z)) rfl
    have e1 := hS.2.2.cell 1 (v := .int .u64 (dlo z)) rfl
    have e2 := hS.2.2.cell 2 (v := .int .i64 12) rfl
    go_simp
   try simp only [nrm]
   refine tL 3 40 (.pointer (some ⟨q7, 2, none⟩)) ?_ ?_
   ·intro wq hS
    go_simp
   try simp only [nrm]
   refine tL 4 41 (.agg #[.int .i64 x2, .int .u64 x3, .int .i64 x4]) ?_ ?_
   ·intro wq hS
    have e0 := hS.1.cell 2 (v := .int .i64 x2) rfl
    have e1 := hS.1.cell 3 (v := .int .u64 x3) rfl
    have e2 := hS.1.cell 4 (v := .int .i64 x4) rfl
    go_simp
   try simp only [nrm]
   clear hh_
   refine rdy 5 (fun K hK => ?_)
   go_simp
   refine (HPL.out z HZB.out _).mono ?_
   rintro e w5 ⟨rfl, b3⟩
   have b3 : Below w3.heap.size w3 w5 := ((Below.refl w3.heap.size w3).drew).trans b3
   have HM3' : Hid (MapF w5 141 q k f) := HMY.out.step b3
   have HW7 := hI_ (HX7.out.step b3)
   have HW8 := hI_ (HX8.out.step b3)
   have HW9 := hI_ (HX9.out.step b3)
   have HB3 := hI_ (HBY.out.trans (b3.mono (by have := HBY.out.size; have := HQ.out; omega)))
   clear b3 HMY HX7 HX8 HX9 HBY
   go_wp2_with fail
   refine hK.out _ _ ⟨HW7.out, HW8.out, HW9.out⟩ (fun hh_ => ?_)
   clear hK K hh_
   try simp only [nrm]
   refine rdy 6 (fun K hK => ?_)
   skip
   refine ur (by rfl) _ _ _ 142 (by rfl) 141 44 keyedA underlying142 q k f (by rfl) HM3'.out (by have := HL16.out; have := HN.out; unfold maxLen; omega) (.agg #[.int .i64 x0, .int .i64 x1]) (dv (z + Ln.un ⟨x0, x1, x2, x3, x4⟩) 12) (la x0 x1) (by rfl) (by rfl) HVA.out.key ?_
   intro w6 m4 t4
   have M4 := AMap.put HM2.out HM3.out HVA.out m4
   have U4 := aI t4
   have AM3 : AMap w5 q k _ _ := ⟨f, HM3'.out, HM2.out, HM3.out⟩
   refine hK.out _ _ ⟨HW7.out.but U4 (HW7.out.notM AM3), HW8.out.but U4 (HW8.out.notM AM3), HW9.out.but U4 (HW9.out.notM AM3)⟩ (fun hh_ => ?_)
   clear hK K hh_ AM3
   refine dN ?_
   have HM4 := hI_ M4
   have HB4 := hI_ (HB3.out.trans (U4.below (by have := HB3.out.size; have := HQ.out; omega) (fun i (hi : i = q) => by omega)))
   clear M4 U4 m4 t4 HM3'
   go_wp2_with fail
   refine ⟨⟨k + 1, by omega, by go_num, ?_, HB4.out⟩, by simp [intOf]; omega⟩
   refine HM4.out.congr (fun c u hv => ?_) (fun c u hv _ => ?_)
   ·rw [HT.out c u hv]
    congr 1
    exact decide_eq_decide.2 ⟨fun e => ⟨e.1.symm, e.2.symm⟩, fun e => ⟨e.1.symm, e.2.symm⟩⟩
   ·rw [HS.out c u hv]
    by_cases e : c = x0 ∧ u = x1
    ·obtain ⟨rfl, rfl⟩ := e
     rw [if_pos ⟨rfl, rfl⟩, if_pos ⟨rfl, rfl⟩, HZ.out, Int.add_assoc]
    ·rw [if_neg e, if_neg (fun e' => e ⟨e'.1.symm, e'.2.symm⟩), Int.add_zero]
  ·rw [ht] at mf
   have HTT := hI_ ht
   have HMF : Hid (f (la x0 x1) = some (.agg #[.int .i64 (dhi z), .int .u64 (dlo z), .int .i64 12])) := mf
   clear ht mf
   go_upto_region 9 with (refine lkS rfl _ _ 142 rfl 141 44 keyedA underlying142 _ (lD _) q k f (by rfl) (HM1.out.step HBA.out) (.agg #[.int .i64 x0, .int .i64 x1]) (la x0 x1) (by rfl) HVA.out.key _ HMF.out ?_)
   have V7 := ((aa wr [.int .i64 x0, .int .i64 x1, .int .i64 x2, .int .u64 x3, .int .i64 x4] 91).alloc (.cells #[.int .i64 x0, .int .i64 x1] 141)).alloc (.cells #[.int .i64 (dhi z), .int .u64 (dlo z), .int .i64 12] 44)
   have V8 := (aa (wr.alloc (.cells #[.int .i64 x0, .int .i64 x1, .int .i64 x2, .int .u64 x3, .int .i64 x4] 91)) [.int .i64 x0, .int .i64 x1] 141).alloc (.cells #[.int .i64 (dhi z), .int .u64 (dlo z), .int .i64 12] 44)
   have V9 := aa ((wr.alloc (.cells #[.int .i64 x0, .int .i64 x1, .int .i64 x2, .int .u64 x3, .int .i64 x4] 91)).alloc (.cells #[.int .i64 x0, .int .i64 x1] 141)) [.int .i64 (dhi z), .int .u64 (dlo z), .int .i64 12] 44
   rw [World.size_alloc] at V8
   rw [World.size_alloc, World.size_alloc] at V9
   have BB := HBA.out.alloc HBA.out.size (.cells #[.int .i64 (dhi z), .int .u64 (dlo z), .int .i64 12] 44)
   have HMX : Hid (MapF _ 141 q k f) := HM1.out.step BB
   have HBX := hI_ (HB.out.trans (BB.mono (by have := HB.out.size; have := HQ.out; omega)))
   have HLX := hI_ (HLd.out.step (by rw [HQ.out]; exact HBX.out))
   clear BB HBA HM1 HB c0 c1 c2 c3 c4
   generalize wr.heap.size = q7 at *
   generalize ((wr.alloc (.cells #[.int .i64 x0, .int .i64 x1, .int .i64 x2, .int .u64 x3, .int .i64 x4] 91)).alloc (.cells #[.int .i64 x0, .int .i64 x1] 141)).alloc (.cells #[.int .i64 (dhi z), .int .u64 (dlo z), .int .i64 12] 44) = w2 at *
   have HV7 := hI_ V7
   have HV8 := hI_ V8
   have HV9 := hI_ V9
   clear V7 V8 V9
   refine wp_region_noPanic ?_
   refine wp_region_held_drew (S := fun w' => VA w' q7 [.int .i64 x0, .int .i64 x1, .int .i64 x2, .int .u64 x3, .int .i64 x4] 91 ∧ VA w' (q7 + 1) [.int .i64 x0, .int .i64 x1] 141 ∧ VA w' (q7 + 1 + 1) [.int .i64 (dhi z), .int .u64 (dlo z), .int .i64 12] 44) (by kernel_rfl) ⟨HV7.out.drew, HV8.out.drew, HV9.out.drew⟩ (fun hh_ => ?_)
   refine tL 0 37 (.map (some q)) ?_ ?_
   ·intro wq hS
    go_simp
   try simp only [nrm]
   refine tL 1 38 (.agg #[.int .i64 x0, .int .i64 x1]) ?_ ?_
   ·intro wq hS
    have e0 := hS.2.1.cell 0 (v := .int .i64 x0) rfl
    have e1 := hS.2.1.cell 1 (v := .int .i64 x1) rfl
    go_simp
   try simp only [nrm]
   refine tL 2 39 (.agg #[.int .i64 (dhi z), .int .u64 (dlo z), .int .i64 12]) ?_ ?_
   ·intro wq hS
    have e0 := hS.2.2.cell 0 (v := .int .i64 (dhi z)) rfl
    have e1 := hS.2.2.cell 1 (v := .int .u64 (dlo z)) rfl
    have e2 := hS.2.2.cell 2 (v := .int .i64 12) rfl
    go_simp
   try simp only [nrm]
   refine tL 3 40 (.pointer (some ⟨q7, 2, none⟩)) ?_ ?_
   ·intro wq hS
    go_simp
   try simp only [nrm]
   refine tL 4 41 (.agg #[.int .i64 x2, .int .u64 x3, .int .i64 x4]) ?_ ?_
   ·intro wq hS
    have e0 := hS.1.cell 2 (v := .int .i64 x2) rfl
    have e1 := hS.1.cell 3 (v := .int .u64 x3) rfl
    have e2 := hS.1.cell 4 (v := .int .i64 x4) rfl
    go_simp
   try simp only [nrm]
   clear hh_
   refine rdy 5 (fun K hK => ?_)
   go_simp
   refine (HPL.out z HZB.out _).mono ?_
   rintro e w5 ⟨rfl, b3⟩
   have b3 : Below w2.heap.size w2 w5 := ((Below.refl w2.heap.size w2).drew).trans b3
   have HM3' : Hid (MapF w5 141 q k f) := HMX.out.step b3
   have HW7 := hI_ (HV7.out.step b3)
   have HW8 := hI_ (HV8.out.step b3)
   have HW9 := hI_ (HV9.out.step b3)
   have HB3 := hI_ (HBX.out.trans (b3.mono (by have := HBX.out.size; have := HQ.out; omega)))
   clear b3 HMX HV7 HV8 HV9 HBX HLX
   go_wp2_with fail
   refine hK.out _ _ ⟨HW7.out, HW8.out, HW9.out⟩ (fun hh_ => ?_)
   clear hK K hh_
   try simp only [nrm]
   refine rdy 6 (fun K hK => ?_)
   skip
   refine ur (by rfl) _ _ _ 142 (by rfl) 141 44 keyedA underlying142 q k f (by rfl) HM3'.out (by have := HL16.out; have := HN.out; unfold maxLen; omega) (.agg #[.int .i64 x0, .int .i64 x1]) (dv (z + Ln.un ⟨x0, x1, x2, x3, x4⟩) 12) (la x0 x1) (by rfl) (by rfl) HVA.out.key ?_
   intro w6 m4 t4
   have M4 := AMap.put HM2.out HM3.out HVA.out m4
   have U4 := aI t4
   have AM3 : AMap w5 q k _ _ := ⟨f, HM3'.out, HM2.out, HM3.out⟩
   refine hK.out _ _ ⟨HW7.out.but U4 (HW7.out.notM AM3), HW8.out.but U4 (HW8.out.notM AM3), HW9.out.but U4 (HW9.out.notM AM3)⟩ (fun hh_ => ?_)
   clear hK K hh_ AM3
   refine dN ?_
   have HM4 := hI_ M4
   have HB4 := hI_ (HB3.out.trans (U4.below (by have := HB3.out.size; have := HQ.out; omega) (fun i (hi : i = q) => by omega)))
   clear M4 U4 m4 t4 HM3'
   go_wp2_with fail
   refine ⟨⟨k + 1, by omega, by go_num, ?_, HB4.out⟩, by simp [intOf]; omega⟩
   refine HM4.out.congr (fun c u hv => ?_) (fun c u hv _ => ?_)
   ·rw [HT.out c u hv]
    congr 1
    exact decide_eq_decide.2 ⟨fun e => ⟨e.1.symm, e.2.symm⟩, fun e => ⟨e.1.symm, e.2.symm⟩⟩
   ·rw [HS.out c u hv]
    by_cases e : c = x0 ∧ u = x1
    ·obtain ⟨rfl, rfl⟩ := e
     rw [if_pos ⟨rfl, rfl⟩, if_pos ⟨rfl, rfl⟩, HZ.out, Int.add_assoc]
    ·rw [if_neg e, if_neg (fun e' => e ⟨e'.1.symm, e'.2.symm⟩), Int.add_zero]
theorem keyedI : Keyed prog 3 := int_keyed underlying3
theorem i5 {u : Int} (h : I6 u) : keyOf prog 3 (.int .i64 u) = some (.int .i64 u) := keyOf_int_mk underlying3 (WalkArith.wf_i64 h)
theorem lkD {w : World} {y : Nat → Option Bool} {o : Oper} {a : Act} {Q : Exit → Act → World → Prop} {K' : Act → World → Prop} {k0 : Prop} (hgd : Region.wanted o y = true) (m x : Operand) (t : TypeId) (hop : o.op = Op.lookup t m x false)
  (k e : TypeId) (K : Keyed prog k) (ht : prog.underlying t = some (.map k e)) (z : Value) (hz : (zeroValue e).run prog w = .ok z w) (b n : Nat) (f : Lit → Option Value) (hm : a.eval m = .map (some b)) (h : MapF w k b n f)
  (key : Value) (kl : Lit) (hx : a.eval x = key) (hkey : keyOf prog k key = some kl) (v : Value) (hv : (f kl).getD z = v) (d : Nat) (hd : o.dst = some d)
  (hK : K' (a.put (some d) v) w) : if Region.wanted o y then o.wp prog a w K' Q else k0 := by
 rw [if_pos hgd]
 have hrun := h.look K ht hz hkey
 rw [hv] at hrun
 rw [← hd] at hK
 unfold Oper.wp
 simp [execOp, hop, hm, hx, hrun, Result.andThen]
 exact hK
structure UMap (w : World) (m n : Nat) (ls : List Ln) : Prop where
 ex : ∃ f, MapF w 3 m n f ∧ (∀ u, 0 ≤ u → u ≤ 3 → (tcu ls u = false → f (.int .i64 u) = none) ∧ (tcu ls u = true → ∃ (c : Int) (s : Nat), f (.int .i64 u) = some (dv c s) ∧ s ≤ 12 ∧ c * (10 : Int) ^ (12 - s) = sau ls u)) ∧ (∀ key kl, keyOf prog 3 key = some kl → (f kl).isSome = true → ∃ u, 0 ≤ u ∧ u ≤ 3 ∧ kl = .int .i64 u)
theorem UMap.step {w w' : World} {m n : Nat} {ls : List Ln} (h : UMap w m n ls) (k : Below w.heap.size w w') : UMap w' m n ls := by
 obtain ⟨f, h1, h2⟩ := h.ex; exact ⟨f, h1.step k, h2⟩
theorem p9 (w : World) : UMap (w.alloc (.map #[] 0)) w.heap.size 0 [] := ⟨_, ep w _, fun u _ _ => ⟨fun _ => rfl, fun h => by simp [tcu] at h⟩, fun key kl _ h => by simp at h⟩
theorem VA.notF {w : World} {p m n : Nat} {cs : List Value} {S k : TypeId} {f : Lit → Option Value} (h : VA w p cs S) (a : MapF w k m n f) : p ≠ m := by
 rintro rfl
 obtain ⟨D, ⟨es, clock, hb, _⟩, _⟩ := a
 have := h.blk
 rw [hb] at this
 cases this
def bal (ls : List Ln) : Bool := decide (sau ls 0 = 0 ∧ sau ls 1 = 0 ∧ sau ls 2 = 0 ∧ sau ls 3 = 0)
theorem sA {ls : List Ln} (h : ∀ u, 0 ≤ u → u ≤ 3 → sau ls u = 0) : bal ls = true := decide_eq_true ⟨h 0 (by decide) (by decide), h 1 (by decide) (by decide), h 2 (by decide) (by decide), h 3 (by decide) (by decide)⟩
theorem vo {ls : List Ln} {u : Int} (h0 : 0 ≤ u) (h3 : u ≤ 3) (h : sau ls u ≠ 0) : bal ls = false := by
 refine decide_eq_false (fun e => h ?_)
 have hu : u = 0 ∨ u = 1 ∨ u = 2 ∨ u = 3 := by omega
 rcases hu with rfl | rfl | rfl | rfl
 ·exact e.1
 ·exact e.2.1
 ·exact e.2.2.1
 ·exact e.2.2.2
theorem kY {ls : List Ln} {u : Int} (h : tcu ls u = false) : sau ls u = 0 := by
 induction ls with
 | nil => rfl
 | cons x ls ih =>
  simp only [tcu, List.any_cons, Bool.or_eq_false_iff, decide_eq_false_iff_not] at h
  have := ih h.2
  simp only [sau, List.map_cons, List.sum_cons, if_neg h.1] at this ⊢
  omega
theorem jm {c p z B : Int} (hp : 1 ≤ p) (e : c * p = z) (h : -B ≤ z ∧ z ≤ B) : -B ≤ c ∧ c ≤ B := by
 subst e
 rcases Int.lt_or_le c 0 with h0 | h0
 ·have := Int.mul_le_mul_of_nonpos_left (Int.le_of_lt h0) hp
  omega
 ·have := Int.mul_le_mul_of_nonneg_left hp h0
  omega
theorem nd (n : Nat) : (1 : Int) ≤ (10 : Int) ^ n := by have : (0 : Int) < (10 : Int) ^ n := Int.pow_pos (by decide); omega
theorem qU (x : Ln) (hx : x.wf) (ho : x.ok = true) (c : Int) (s : Nat) (z : Int) (hs : s ≤ 12) (e : c * (10 : Int) ^ (12 - s) = z) (hz : -(2 * M36) ≤ z ∧ z ≤ 2 * M36) : ∃ (c' : Int) (s' : Nat), s' ≤ 12 ∧ c' * (10 : Int) ^ (12 - s') = z + x.un ∧ ∀ w : World,
  Calls prog 198 #[dv c s, .agg #[.int .i64 x.h, .int .u64 x.l, .int .i64 x.s]] w fun e w' => e = .returned (dv c' s') ∧ Below w.heap.size w w' := by
 obtain ⟨cx, n, h1, h2, h3, hn, ic, ec, eu, b1, b2⟩ := ek hx ho
 have hc := jm (nd _) e hz
 have et : tv c s cx n * (10 : Int) ^ (12 - max s n) = z + x.un := by rw [ya c s cx n 12 (by omega), e, eu]
 have hb := jm (B := 4 * M36) (nd _) et (by unfold M32 M36 at *; omega)
 refine ⟨tv c s cx n, max s n, by omega, et, fun w => ?_⟩
 rw [h1, h2, h3]
 exact kh c cx s n w (gV (by omega)) ic (by omega) (by omega) (gV hb)
theorem rE {ls : List Ln} (h : ∀ x ∈ ls, x.wf ∧ x.ok = true) (hl : ls.length ≤ 16) (u : Int) : -(2 * M36) ≤ sau ls u ∧ sau ls u ≤ 2 * M36 := by
 have h2 := wo h u
 have h4 : ((ls.length : Int)) * M32 ≤ 16 * M32 := Int.mul_le_mul_of_nonneg_right (by omega) (by decide)
 unfold M36 M32 at *
 omega
theorem UMap.put {w' : World} {m n : Nat} {ls : List Ln} {x : Ln} {f : Lit → Option Value} (h2 : ∀ u, 0 ≤ u → u ≤ 3 → (tcu ls u = false → f (.int .i64 u) = none) ∧ (tcu ls u = true → ∃ (c : Int) (s : Nat), f (.int .i64 u) = some (dv c s) ∧ s ≤ 12 ∧ c * (10 : Int) ^ (12 - s) = sau ls u)) (h3 : ∀ key kl, keyOf prog 3 key = some kl → (f kl).isSome = true → ∃ u, 0 ≤ u ∧ u ≤ 3 ∧ kl = .int .i64 u)
  (hx : 0 ≤ x.cur ∧ x.cur ≤ 3) {c : Int} {s : Nat} (hs : s ≤ 12) (hc : c * (10 : Int) ^ (12 - s) = sau ls x.cur + x.un) (h : MapF w' 3 m n (upF f (.int .i64 x.cur) (dv c s))) : UMap w' m n (ls ++ [x]) := by
 refine ⟨_, h, fun u hu0 hu3 => ?_, fun key kl hk hs => ?_⟩
 ·rw [rN, rF]
  by_cases e : x.cur = u
  ·subst e
   rw [dq f (keyedI.key (i5 (by unfold I6; omega)))]
   refine ⟨fun h => by simp at h, fun _ => ⟨c, s, rfl, hs, ?_⟩⟩
   rw [if_pos rfl]
   exact hc
  ·rw [bC f _ (fun e' => e (by injection e' with _ e'; exact e'.symm)), decide_eq_false e, Bool.or_false, if_neg e, Int.add_zero]
   exact h2 u hu0 hu3
 ·by_cases e : kl = .int .i64 x.cur
  ·exact ⟨x.cur, hx.1, hx.2, e⟩
  ·rw [bC f _ e] at hs
   exact h3 key kl hk hs
theorem kc (v : Value) (ls : List Ln) (w : World) (h : Sl LN w v ls) (hg : ∀ x ∈ ls, x.wf ∧ x.pl = true ∧ x.ok = true) (hl : ls.length ≤ 16) :
  Calls prog 180 #[v] w fun e w' => e = .returned (.bool (bal ls)) ∧ Below w.heap.size w w' := by
 obtain ⟨n, hn⟩ : ∃ n, n = ls.length := ⟨_, rfl⟩
 have H := hI_ h
 obtain ⟨ta, tc, rfl, g1, g2⟩ : ∃ a c, v = .slice a n c ∧ n ≤ c ∧ c ≤ 9223372036854775807 := by obtain ⟨a, c, e, h1, h2, _⟩ := h; exact ⟨a, c, by rw [hn]; exact e, by rw [hn]; exact h1, h2⟩
 have HN := hI_ hn
 have HL16 := hI_ hl
 have HG := hI_ hg
 clear h hn hl hg
 have hmm := @run_makeMap prog
 have HM0 := hI_ (p9 w)
 have HB0 := hI_ ((Below.refl w.heap.size w).alloc (Nat.le_refl _) (.map #[] 0))
 go_enter func180, ntmps180
 go_wp2_with fail
 generalize hq : w.heap.size = q at *
 have HQ := hI_ hq
 clear hq
 go_loopw [11] (fun i wr => ∃ k : Nat, k ≤ n ∧ i = .int .i64 (k : Int) ∧ Hid (UMap wr q k (ls.take k)) ∧ Hid (Below q w wr)) (fun i _ => n - (intOf i).toNat)
 case atStart => exact ⟨0, by omega, rfl, HM0.out, HB0.out⟩
 case round =>
  obtain ⟨k, hk, rfl, HM, HB⟩ := hrel
  by_cases hkn : k = n
  ·subst hkn
   have hm := HM.out
   rw [HN.out, List.take_length] at hm
   obtain ⟨f, m1, m2, m3⟩ := hm.ex
   have HM1 : Hid (MapF wr 3 q ls.length f) := m1
   have HM2 := hI_ m2
   have HM3 := hI_ m3
   clear m1 m2 m3 hm HM
   go_wp2_with (first | (at_range; refine rgM rfl _ 264 rfl 3 44 keyedI underlying264 q ls.length f (by rfl) HM1.out ?_; intro w1 left cnt r1 l1 b1) | go_in)
   go_frame
   have hb1 := HB.out.trans (b1.mono (by have := HB.out.size; have := HQ.out; omega))
   have R1 : Hid (RanF w1 3 q wr.heap.size ls.length f left cnt) := r1
   have HQR : Hid (q ≤ wr.heap.size) := (show q ≤ wr.heap.size by have := HB.out.size; have := HQ.out; omega)
   have L1 : Hid (∀ u, 0 ≤ u → u ≤ 3 → tcu ls u = true → left (.int .i64 u) = false → sau ls u = 0) := fun u h0 h3 ht hf => by
    obtain ⟨c, s, hc, _⟩ := (HM2.out u h0 h3).2 ht
    rw [l1 _ _ (i5 (by unfold I6; omega)), hc] at hf
    cases hf
   clear r1 l1 b1
   generalize wr.heap.size = r at *
   go_loopw [] (fun wx => ∃ left cnt, Hid (RanF wx 3 q r ls.length f left cnt) ∧ Hid (∀ u, 0 ≤ u → u ≤ 3 → tcu ls u = true → left (.int .i64 u) = false → sau ls u = 0) ∧ Hid (Below q w wx)) (fun wx => wx.rangeLeft q r)
   case atStart => exact ⟨left, cnt, R1.out, L1.out, hb1⟩
   case round =>
    obtain ⟨left, cnt, R, L, HBx⟩ := hrel
    go_wp2_with (at_next; refine nxM rfl _ rfl 3 keyedI q r ls.length f left cnt (by rfl) R.out ?_ ?_)
    ·intro hl0
     go_wp2_with fail
     go_ret
     refine ⟨?_, by rw [HQ.out]; exact HBx.out⟩
     rw [sA (fun u h0 h3 => ?_)]
     ·rfl
     ·cases ht : tcu ls u
      ·exact kY ht
      ·exact L.out u h0 h3 ht (hl0 _)
    ·intro x c kl w2 cnt2 hkey hlk hc R2 hlt U2 hen
     obtain ⟨u, h0, h3, rfl⟩ := HM3.out x kl hkey (by rw [hc]; rfl)
     have ht : tcu ls u = true := by
      cases ht : tcu ls u
      ·rw [(HM2.out u h0 h3).1 ht] at hc; cases hc
      ·rfl
     obtain ⟨cc, s, hc2, hs, hsum⟩ := (HM2.out u h0 h3).2 ht
     rw [hc] at hc2
     cases hc2
     have hxk : x = .int .i64 u := keyedI.inj hkey (i5 (by unfold I6; omega))
     subst hxk
     have hcb := jm (nd _) hsum (rE (ls := ls) (fun y hy => by have := HG.out y hy; exact ⟨this.1, this.2.2⟩) HL16.out u)
     have HC := hI_ (fun w => gn cc s w (gV (by omega)) (by omega))
     have HR2 : Hid (RanF w2 3 q r ls.length f _ cnt2) := R2
     have HB2 := hI_ (HBx.out.trans (U2.below (by have := HBx.out.size; have := HQ.out; omega) (fun i (hi : i = r) => by have := HQR.out; omega)))
     have HMS : Hid (w2.rangeLeft q r = cnt2 ∧ wr.rangeLeft q r = cnt ∧ cnt2 < cnt) := ⟨R2.left_eq, R.out.left_eq, hlt⟩
     have HSU : Hid (cc = 0 ↔ sau ls u = 0) := by
      constructor
      ·rintro rfl; rw [← hsum]; simp
      ·intro e
       rw [e] at hsum
       rcases Int.mul_eq_zero.1 hsum with h | h
       ·exact h
       ·have := nd (12 - s); omega
     have HU := hI_ ((And.intro h0 (And.intro h3 ht)))
     clear R2 U2 hlt hcb hc hlk hkey h0 h3 ht hsum hs
     unfold dv at hen
     unfold dv
     unfold dv at HC
     go_wp2_with fail
     refine (HC.out _).mono ?_
     rintro e w3 ⟨rfl, b3⟩
     have b3' := aC b3
     have HR3 : Hid (RanF w3 3 q r ls.length f _ cnt2) := HR2.out.step b3'
     have HB3 := hI_ (HB2.out.trans (b3'.mono (by have := HB2.out.size; have := HQ.out; omega)))
     clear b3 b3' HB2 HR2
     by_cases hz : cc = 0
     ·rw [decide_eq_true hz]
      have HZ := hI_ hz
      clear hz
      go_wp2_with fail
      refine ⟨⟨_, cnt2, HR3.out, ?_, HB3.out⟩, ?_⟩
      ·intro u' h0' h3' ht' hf
       simp only [Bool.and_eq_false_iff] at hf
       rcases hf with hf | hf
       ·exact L.out u' h0' h3' ht' hf
       ·have : Lit.sameKey (.int .i64 u') (.int .i64 u) = true := by simpa using hf
        have := WideAt.sameKey_eq this
        injection this with _ this
        rw [this]
        exact HSU.out.1 HZ.out
      ·rw [HR3.out.left_eq, HMS.out.2.1]
       exact HMS.out.2.2
     ·rw [decide_eq_false hz]
      have HZ := hI_ hz
      clear hz
      go_wp2_with fail
      go_ret
      refine ⟨by rw [vo HU.out.1 HU.out.2.1 (fun e => HZ.out (HSU.out.2 e))]; rfl, by rw [HQ.out]; exact HB3.out⟩
  have hk' : k < n := by omega
  obtain ⟨x, hx⟩ : ∃ x, ls[k]? = some x := ⟨ls[k]'(by have := HN.out; omega), by simp⟩
  have hgx := HG.out x (List.mem_of_getElem? hx)
  obtain ⟨bb, off, e, hb, hc⟩ := (H.out.step (w' := wr) (by rw [HQ.out]; exact HB.out)).at k x hx
  cases e
  have hva := Ln.va hgx.2.1
  obtain ⟨f, m1, m2, m3⟩ := HM.out.ex
  have HM1 : Hid (MapF wr 3 q k f) := m1
  have HM2 := hI_ m2
  have HM3 := hI_ m3
  have hx0 : 0 ≤ x.cur ∧ x.cur ≤ 3 := ⟨hva.2.2.1, hva.2.2.2⟩
  obtain ⟨cc, s, hf, hs, hsum⟩ : ∃ (c : Int) (s : Nat), (f (.int .i64 x.cur)).getD (.agg #[.int .i64 0, .int .u64 0, .int .i64 0]) = dv c s ∧ s ≤ 12 ∧ c * (10 : Int) ^ (12 - s) = sau (ls.take k) x.cur := by
   cases ht : tcu (ls.take k) x.cur
   ·refine ⟨0, 0, ?_, by omega, by rw [kY ht]; simp⟩
    rw [(m2 _ hx0.1 hx0.2).1 ht]
    unfold dv
    rw [xC, xD]
    rfl
   ·obtain ⟨c, s, h1, h2, h3⟩ := (m2 _ hx0.1 hx0.2).2 ht
    exact ⟨c, s, by rw [h1]; rfl, h2, h3⟩
  obtain ⟨c', s', hs', hsum', HPL⟩ := qU x hgx.1 hgx.2.2 cc s _ hs hsum (rE (fun y hy => by have := HG.out y (List.mem_of_mem_take hy); exact ⟨this.1, this.2.2⟩) (by rw [List.length_take]; have := HL16.out; omega) _)
  have HPUT : Hid (∀ w', MapF w' 3 q (k + 1) (upF f (.int .i64 x.cur) (dv c' s')) → UMap w' q (k + 1) (ls.take (k + 1))) := fun w' hm => by rw [ja hx]; exact UMap.put m2 m3 hx0 hs' hsum' hm
  have HP := hI_ HPL
  have HF := hI_ hf
  have HX0 := hI_ hx0
  obtain ⟨x0, x1, x2, x3, x4⟩ := x
  simp only at HP HPUT HF HX0
  have c0 : wr.cell? ⟨bb, off + k * 5, none⟩ = some (.int .i64 x0) := hc 0 _ rfl
  have c1 : wr.cell? ⟨bb, off + k * 5 + 1, none⟩ = some (.int .i64 x1) := hc 1 _ rfl
  have c2 : wr.cell? ⟨bb, off + k * 5 + 2, none⟩ = some (.int .i64 x2) := hc 2 _ rfl
  have c3 : wr.cell? ⟨bb, off + k * 5 + 3, none⟩ = some (.int .u64 x3) := hc 3 _ rfl
  have c4 : wr.cell? ⟨bb, off + k * 5 + 4, none⟩ = some (.int .i64 x4) := hc 4 _ rfl
  have d1 : (0 : Int) ≤ (k : Int) := by omega
  have d2 : (k : Int) < (n : Int) := by omega
  clear hc hb hx hgx hva m1 m2 m3 hx0 hf hs hsum hs' hsum' HPL HM
  go_upto_region 5 with fail
  have BA := (Below.refl wr.heap.size wr).alloc (Nat.le_refl _) (.cells #[.int .i64 x0, .int .i64 x1, .int .i64 x2, .int .u64 x3, .int .i64 x4] 91)
  have HV : Hid (VA (wr.alloc (.cells #[.int .i64 x0, .int .i64 x1, .int .i64 x2, .int .u64 x3, .int .i64 x4] 91)) wr.heap.size [.int .i64 x0, .int .i64 x1, .int .i64 x2, .int .u64 x3, .int .i64 x4] 91) := aa wr [.int .i64 x0, .int .i64 x1, .int .i64 x2, .int .u64 x3, .int .i64 x4] 91
  have HMX : Hid (MapF (wr.alloc (.cells #[.int .i64 x0, .int .i64 x1, .int .i64 x2, .int .u64 x3, .int .i64 x4] 91)) 3 q k f) := HM1.out.step BA
  have HBX := hI_ (HB.out.trans (BA.mono (by have := HB.out.size; have := HQ.out; omega)))
  clear BA c0 c1 c2 c3 c4 HM1 HB
  generalize wr.heap.size = q5 at *
  generalize wr.alloc (.cells #[.int .i64 x0, .int .i64 x1, .int .i64 x2, .int .u64 x3, .int .i64 x4] 91) = w2 at *
  refine wp_region_noPanic ?_
  refine wp_region_held_drew (S := fun w' => VA w' q5 [.int .i64 x0, .int .i64 x1, .int .i64 x2, .int .u64 x3, .int .i64 x4] 91) (by kernel_rfl) HV.out.drew (fun hh_ => ?_)
  refine tL 0 15 (.map (some q)) ?_ ?_
  ·intro wq hS
   go_simp
  try simp only [nrm]
  refine tL 1 16 (.pointer (some ⟨q5, 1, none⟩)) ?_ ?_
  ·intro wq hS
   go_simp
  try simp only [nrm]
  refine tL 2 17 (.int .i64 x1) ?_ ?_
  ·intro wq hS
   have e0 := hS.cell 1 (v := .int .i64 x1) rfl
   go_simp
  try simp only [nrm]
  refine tL 3 18 (.map (some q)) ?_ ?_
  ·intro wq hS
   go_simp
  try simp only [nrm]
  refine tL 4 19 (.pointer (some ⟨q5, 1, none⟩)) ?_ ?_
  ·intro wq hS
   go_simp
  try simp only [nrm]
  refine tL 5 20 (.int .i64 x1) ?_ ?_
  ·intro wq hS
   have e0 := hS.cell 1 (v := .int .i64 x1) rfl
   go_simp
  try simp only [nrm]
  refine tL 7 22 (.pointer (some ⟨q5, 2, none⟩)) ?_ ?_
  ·intro wq hS
   go_simp
  try simp only [nrm]
  refine tL 8 23 (.agg #[.int .i64 x2, .int .u64 x3, .int .i64 x4]) ?_ ?_
  ·intro wq hS
   have e0 := hS.cell 2 (v := .int .i64 x2) rfl
   have e1 := hS.cell 3 (v := .int .u64 x3) rfl
   have e2 := hS.cell 4 (v := .int .i64 x4) rfl
   go_simp
  try simp only [nrm]
  clear hh_
  refine rdy 6 (fun K hK => ?_)
  skip
  refine lkD (by rfl) _ _ 264 (by rfl) 3 44 keyedI underlying264 _ (lD _) q k f (by rfl) (HMX.out.step (Below.refl _ _).drew) (.int .i64 x1) (.int .i64 x1) (by rfl) (i5 (by have := HX0.out; unfold I6; omega)) (.agg #[.int .i64 (dhi cc), .int .u64 (dlo cc), .int .i64 (s : Int)]) HF.out 21 (by rfl) ?_
  refine hK.out _ _ HV.out.drew (fun hh_ => ?_)
  clear hK K hh_
  try simp only [nrm]
  refine rdy 9 (fun K hK => ?_)
  go_simp
  refine (HP.out _).mono ?_
  rintro e w5 ⟨rfl, b3⟩
  have b3 : Below w2.heap.size w2 w5 := ((Below.refl w2.heap.size w2).drew).trans b3
  have HM5 : Hid (MapF w5 3 q k f) := HMX.out.step b3
  have HV5 := hI_ (HV.out.step b3)
  have HB5 := hI_ (HBX.out.trans (b3.mono (by have := HBX.out.size; have := HQ.out; omega)))
  clear b3 HMX HV HBX
  go_wp2_with fail
  refine hK.out _ _ HV5.out (fun hh_ => ?_)
  clear hK K hh_
  try simp only [nrm]
  refine rdy 10 (fun K hK => ?_)
  skip
  refine ur (by rfl) _ _ _ 264 (by rfl) 3 44 keyedI underlying264 q k f (by rfl) HM5.out (by have := HL16.out; have := HN.out; unfold maxLen; omega) (.int .i64 x1) (dv c' s') (.int .i64 x1) (by rfl) (by rfl) (i5 (by have := HX0.out; unfold I6; omega)) ?_
  intro w6 m6 t6
  have M6 := HPUT.out _ m6
  have U6 := aI t6
  refine hK.out _ _ (HV5.out.but U6 (HV5.out.notF HM5.out)) (fun hh_ => ?_)
  clear hK K hh_
  refine dN ?_
  have HM6 := hI_ M6
  have HB6 := hI_ (HB5.out.trans (U6.below (by have := HB5.out.size; have := HQ.out; omega) (fun i (hi : i = q) => by omega)))
  clear M6 U6 m6 t6 HM5
  go_wp2_with fail
  exact ⟨⟨k + 1, by omega, by go_num, HM6.out, HB6.out⟩, by simp [intOf]; omega⟩
theorem sR (d s n : Nat) (T : Int → Int → Bool) (b0 b1 : Int → Int → Int) (w : World) (Hd : AMap w d 32 (fun _ _ => true) b0) (Hs : AMap w s n T b1) (hds : d ≠ s) :
  Calls prog 181 #[.map (some d), .map (some s)] w fun e w' => e = .returned (.tuple #[]) ∧ AMap w' d 32 (fun _ _ => true) (fun c u => if T c u then b1 c u else b0 c u) ∧ But (fun i => i = d) w w' := by
 obtain ⟨f, m1, m2, m3⟩ := Hs.ex
 have HM1 : Hid (MapF w 141 s n f) := m1
 have HM2 := hI_ m2
 have HM3 := hI_ m3
 have HD := hI_ Hd
 have HDS := hI_ hds
 have HDL : Hid (d < w.heap.size ∧ s < w.heap.size) := ⟨Hd.lt, Hs.lt⟩
 clear m1 m2 m3 Hd Hs hds
 go_enter func181, ntmps181
 go_wp2_with (first | (at_range; refine rgM rfl _ 142 rfl 141 44 keyedA underlying142 s n f (by rfl) HM1.out ?_; intro w1 left cnt r1 l1 b1') | go_in)
 go_frame
 have R1 : Hid (RanF w1 141 s w.heap.size n f left cnt) := r1
 have D1 : Hid (AMap w1 d 32 (fun _ _ => true) (fun c u => if T c u && !left (la c u) then b1 c u else b0 c u)) := (HD.out.step b1').congr (fun _ _ _ => rfl) (fun c u hv _ => by
  rw [l1 _ _ hv.key, HM2.out c u hv]
  cases T c u <;> rfl)
 have U1 : Hid (But (fun i => i = d) w w1) := ac b1' _
 clear r1 l1 b1'
 obtain ⟨r, hr⟩ : ∃ r, r = w.heap.size := ⟨_, rfl⟩
 rw [← hr] at R1 ⊢
 have HR := hI_ hr
 clear hr
 go_loopw [] (fun wx => ∃ left cnt, Hid (RanF wx 141 s r n f left cnt) ∧ Hid (AMap wx d 32 (fun _ _ => true) (fun c u => if T c u && !left (la c u) then b1 c u else b0 c u)) ∧ Hid (But (fun i => i = d) w wx)) (fun wx => wx.rangeLeft s r)
 case atStart => exact ⟨left, cnt, R1.out, D1.out, U1.out⟩
 case round =>
  obtain ⟨left, cnt, R, DD, U⟩ := hrel
  go_wp2_with (at_next; refine nxM rfl _ rfl 141 keyedA s r n f left cnt (by rfl) R.out ?_ ?_)
  ·intro hl0
   go_wp2_with fail
   refine bodyPost_end (v := .tuple #[]) (by simp [results, results181, go_sem]) rfl ?_
   refine ⟨rfl, DD.out.congr (fun _ _ _ => rfl) (fun c u hv _ => ?_), U.out⟩
   rw [hl0]
   simp
  ·intro x c kl w2 cnt2 hkey hlk hc R2 hlt U2 hen
   obtain ⟨x0, x1, hv, rfl⟩ := HM3.out x kl hkey (by rw [hc]; rfl)
   have hxk : x = ka x0 x1 := keyedA.inj hkey hv.key
   subst hxk
   have hT : T x0 x1 = true := by
    have := HM2.out x0 x1 hv
    rw [hc] at this
    cases e : T x0 x1
    ·rw [e] at this; cases this
    ·rfl
   have hcv : c = dv (b1 x0 x1) 12 := by
    have := HM2.out x0 x1 hv
    rw [hc, hT] at this
    simpa using this
   subst hcv
   have HVA : Hid (Va x0 x1) := hv
   have HT := hI_ hT
   have HMS : Hid (w2.rangeLeft s r = cnt2 ∧ wr.rangeLeft s r = cnt ∧ cnt2 < cnt) := ⟨R2.left_eq, R.out.left_eq, hlt⟩
   have HR2 : Hid (RanF w2 141 s r n f (fun z => left z && !z.sameKey (la x0 x1)) cnt2) := R2
   have HRL : Hid (d ≠ r) := fun (e : d = r) => by have := HDL.out.1; have := HR.out; omega
   have D2 := hI_ (DD.out.but U2 HRL.out)
   have U3 : Hid (But (fun i => i = d) w w2) := U.out.trans U2 (fun i hi e => by have := HR.out; omega)
   clear hv hT R2 hlt U2 hc hkey hlk
   obtain ⟨z, hz⟩ : ∃ z, z = b1 x0 x1 := ⟨_, rfl⟩
   rw [← hz] at hen ⊢
   have HZ := hI_ hz
   clear hz
   unfold ka dv at hen
   unfold ka dv
   go_upto_region 3 with fail
   obtain ⟨g, k1, k2, k3⟩ := D2.out.ex
   have BA := ((Below.refl w2.heap.size w2).alloc (Nat.le_refl _) (.cells #[.int .i64 x0, .int .i64 x1] 141)).alloc (by simp) (.cells #[.int .i64 (dhi z), .int .u64 (dlo z), .int .i64 12] 44)
   have K1 : Hid (MapF _ 141 d 32 g) := k1.step BA
   have K2 := hI_ k2
   have K3 := hI_ k3
   have HR4 : Hid (RanF _ 141 s r n f (fun z => left z && !z.sameKey (la x0 x1)) cnt2) := HR2.out.step BA
   have U4 := hI_ (U3.out.then BA)
   clear k1 k2 k3 BA D2 HR2 U3 hen
   go_wp2_with (refine stM rfl _ _ _ 142 rfl 141 44 keyedA underlying142 d 32 g (by rfl) K1.out (by unfold maxLen; omega) (.agg #[.int .i64 x0, .int .i64 x1]) (dv z 12) (la x0 x1) (by rfl) (by rfl) HVA.out.key ?_; intro w5 m5 t5)
   have M5 := (AMap.put (T := fun _ _ => true) (b := fun c u => if T c u && !left (la c u) then b1 c u else b0 c u) (fun c u hv => by simpa using K2.out c u hv) K3.out HVA.out m5).fit
   have V5 := aI t5
   have R5 := HR4.out.but V5 (fun e => HDS.out e.symm) (fun e => HRL.out e.symm)
   refine ⟨⟨fun z => left z && !z.sameKey (la x0 x1), ⟨cnt2, R5⟩, M5.congr (fun c u _ => by simp) (fun c u hv _ => ?_), U4.out.trans V5 (fun i _ e => e)⟩, ?_⟩
   ·by_cases e : c = x0 ∧ u = x1
    ·obtain ⟨rfl, rfl⟩ := e
     have := WideAt.sameKey_self (keyedA.key hv.key)
     rw [if_pos ⟨rfl, rfl⟩, if_pos ⟨HT.out, by simp only [this, Bool.not_true, Bool.and_false]⟩, HZ.out]
    ·rw [if_neg e]
     have : Lit.sameKey (la c u) (la x0 x1) = false := by
      cases h : Lit.sameKey (la c u) (la x0 x1)
      ·rfl
      ·exact absurd (WideAt.sameKey_eq h) (uH hv HVA.out e)
     simp only [this, Bool.not_false, Bool.and_true, Bool.and_eq_true, Bool.not_eq_true']
   ·rw [R5.left_eq, HMS.out.2.1]
    exact HMS.out.2.2
def out36 (z : Int) : Bool := decide (M36 < z ∨ z < -M36)
theorem xE (z : Int) : far z 12 M24 = out36 z := by
 unfold far out36
 rw [show M24 * (10 : Int) ^ 12 = M36 by decide]
def rbad (b : Int → Int → Int) (ls : List Ln) : Bool := (accs 32).any (fun a => out36 (b a.1 a.2 + sat ls a.1 a.2))
def perr (b : Int → Int → Int) (ls : List Ln) : Int := if cherr ls ≠ 0 then cherr ls else if rbad b ls then 4 else if bal ls then 0 else 15
def pst (b : Int → Int → Int) (ls : List Ln) : Int → Int → Int := if perr b ls = 0 then fun c u => b c u + sat ls c u else b
def pcnt (b : Int → Int → Int) (ls : List Ln) (n : Int) : Int := if perr b ls = 0 then n + 1 else n
theorem sK {ls : List Ln} (h : cherr ls = 0) : (∀ x ∈ ls, x.pl = true ∧ x.ok = true) ∧ ls.length ≤ 16 := by
 unfold cherr at h
 split at h
 ·cases h
 ·split at h
  ·cases h
  ·split at h
   ·cases h
   ·rename_i h1 h2 h3
    simp only [Bool.not_eq_true, List.any_eq_false] at h1 h3
    refine ⟨fun x hx => ⟨?_, ?_⟩, by omega⟩
    ·simpa using h1 x hx
    ·simpa using h3 x hx
theorem ue {b : Int → Int → Int} {ls : List Ln} (h : ∀ c u, Va c u → out36 (b c u + sat ls c u) = false) : rbad b ls = false := by
 unfold rbad
 rw [List.any_eq_false]
 intro a ha
 obtain ⟨i, hi, rfl⟩ := List.mem_map.1 ha
 rw [h _ _ (lG (List.mem_range.1 hi))]
 simp
theorem kW {b : Int → Int → Int} {ls : List Ln} {c u : Int} (hv : Va c u) (h : out36 (b c u + sat ls c u) = true) : rbad b ls = true := by
 obtain ⟨i, hi, he⟩ := jT hv
 refine List.any_eq_true.2 ⟨(c, u), List.mem_of_getElem? (by rw [dP hi, he]), h⟩
theorem mo {b : Int → Int → Int} {ls : List Ln} (h : cherr ls ≠ 0) : perr b ls = cherr ls := if_pos h
theorem qR {b : Int → Int → Int} {ls : List Ln} (h : cherr ls = 0) (h2 : rbad b ls = true) : perr b ls = 4 := by unfold perr; rw [if_neg (by omega), if_pos h2]
theorem ng {b : Int → Int → Int} {ls : List Ln} (h : cherr ls = 0) (h2 : rbad b ls = false) (h3 : bal ls = false) : perr b ls = 15 := by unfold perr; rw [if_neg (by omega), h2, h3]; rfl
theorem vX {b : Int → Int → Int} {ls : List Ln} (h : cherr ls = 0) (h2 : rbad b ls = false) (h3 : bal ls = true) : perr b ls = 0 := by unfold perr; rw [if_neg (by omega), h2, h3]; rfl
theorem qS {b : Int → Int → Int} {ls : List Ln} (h : perr b ls = 0) : cherr ls = 0 ∧ rbad b ls = false ∧ bal ls = true := by
 by_cases h1 : cherr ls = 0
 ·cases h2 : rbad b ls
  ·cases h3 : bal ls
   ·rw [ng h1 h2 h3] at h; cases h
   ·exact ⟨h1, rfl, rfl⟩
  ·rw [qR h1 h2] at h; cases h
 ·rw [mo h1] at h; exact absurd h h1
theorem vZ {b : Int → Int → Int} {ls : List Ln} (h : perr b ls ≠ 0) : pst b ls = b := if_neg h
theorem tJ {b : Int → Int → Int} {ls : List Ln} {n : Int} (h : perr b ls ≠ 0) : pcnt b ls n = n := if_neg h
theorem Led.no {w : World} {p m : Nat} {b : Int → Int → Int} {n : Int} (h : Led w p m b n) {ls : List Ln} (e : perr b ls ≠ 0) : Led w p m (pst b ls) (pcnt b ls n) := by rw [vZ e, tJ e]; exact h
theorem tY {b : Int → Int → Int} {ls : List Ln} (hb : ∀ c u, Va c u → -M36 ≤ b c u ∧ b c u ≤ M36) : ∀ c u, Va c u → -M36 ≤ pst b ls c u ∧ pst b ls c u ≤ M36 := by
 intro c u hv
 unfold pst
 split
 ·rename_i h
  obtain ⟨_, h2, _⟩ := qS h
  cases e : out36 (b c u + sat ls c u)
  ·have := of_decide_eq_false e
   show -M36 ≤ b c u + sat ls c u ∧ b c u + sat ls c u ≤ M36
   omega
  ·rw [kW hv e] at h2; cases h2
 ·exact hb c u hv
theorem qV (a : Option Addr) (v : Value) (ls : List Ln) (w : World) (h : Sl LN w v ls) (hwf : ∀ x ∈ ls, x.wf) (Lm : Lim w) (hc : cherr ls ≠ 0) :
  Calls prog 140 #[.pointer a, v] w fun e w' => e = .returned (.int .i64 (cherr ls)) ∧ Below w.heap.size w w' := by
 have C0 := iO v ls w h hwf Lm
 have C := hI_ (fun (_ : Unit) => C0)
 clear C0
 have e1 : (cherr ls != 0) = true := by simpa using hc
 clear h hwf Lm
 generalize cherr ls = q at *
 go_enter func140, ntmps140
 go_wp2_with fail
 refine (C.out ()).mono ?_
 rintro e w1 ⟨rfl, b1⟩
 go_wp2_with fail
 go_ret
 exact ⟨rfl, b1⟩
theorem oP (p m : Nat) (b : Int → Int → Int) (n : Int) (v : Value) (ls : List Ln) (w : World) (L : Led w p m b n) (h : Sl LN w v ls) (hwf : ∀ x ∈ ls, x.wf) (Lm : Lim w) (hc : cherr ls = 0) (hn : 0 ≤ n ∧ n ≤ 4611686018427387904) :
  Calls prog 140 #[.pointer (some ⟨p, 0, none⟩), v] w fun e w' => e = .returned (.int .i64 (perr b ls)) ∧ Led w' p m (pst b ls) (pcnt b ls n) ∧ But (fun i => i = p ∨ i = m) w w' := by
 have C0 := iO v ls w h hwf Lm
 rw [hc] at C0
 obtain ⟨hok, hlen⟩ := sK hc
 have C := hI_ (fun (_ : Unit) => C0)
 clear C0
 have HG : Hid (∀ x ∈ ls, x.wf ∧ x.pl = true ∧ x.ok = true) := fun x hx => ⟨hwf x hx, (hok x hx).1, (hok x hx).2⟩
 have HH := hI_ h
 have HL := hI_ L
 have HM := hI_ Lm
 have HLEN := hI_ hlen
 have HC0 := hI_ hc
 have HNN := hI_ hn
 have HPM := hI_ L.ne
 clear h hwf Lm hok hlen hc L
 go_enter func140, ntmps140
 go_wp2_with fail
 refine (C.out ()).mono ?_
 rintro e w1 ⟨rfl, b1⟩
 have HB1 := hI_ b1
 clear b1 C
 go_wp2_with fail
 refine (pi p m b n v ls w1 (HL.out.step HB1.out) (HH.out.step HB1.out) HG.out HLEN.out).mono ?_
 rintro e w2 ⟨rfl, a2, b2⟩
 obtain ⟨q, hq⟩ : ∃ q, q = w1.heap.size := ⟨_, rfl⟩
 rw [← hq] at a2 ⊢
 have HB2 := hI_ (HB1.out.trans (b2.mono HB1.out.size))
 have HQ : Hid (w.heap.size ≤ q) := by rw [hq]; exact HB1.out.size
 obtain ⟨f, m1, m2, m3⟩ := a2.ex
 have HM1 : Hid (MapF w2 141 q 16 f) := m1
 have HM2 := hI_ m2
 have HM3 := hI_ m3
 clear a2 b2 hq m1 m2 m3 HB1
 go_wp2_with (first | (at_range; refine rgM rfl _ 142 rfl 141 44 keyedA underlying142 q 16 f (by rfl) HM1.out ?_; intro w3 left cnt r3 l3 b3) | go_in)
 go_frame
 have hb3 := HB2.out.trans (b3.mono HB2.out.size)
 have R1 : Hid (RanF w3 141 q w2.heap.size 16 f left cnt) := r3
 have HQR : Hid (w.heap.size ≤ w2.heap.size) := HB2.out.size
 have L1 : Hid (∀ c u, Va c u → tch ls c u = true → left (la c u) = false → out36 (b c u + sat ls c u) = false) := fun c u hv ht hf => by
  have h1 := HM2.out c u hv
  rw [ht] at h1
  rw [l3 _ _ hv.key, h1] at hf
  cases hf
 clear r3 l3 b3
 generalize w2.heap.size = r at *
 go_loopw [] (fun wx => ∃ left cnt, Hid (RanF wx 141 q r 16 f left cnt) ∧ Hid (∀ c u, Va c u → tch ls c u = true → left (la c u) = false → out36 (b c u + sat ls c u) = false) ∧ Hid (Below w.heap.size w wx)) (fun wx => wx.rangeLeft q r)
 case atStart => exact ⟨left, cnt, R1.out, L1.out, hb3⟩
 case round =>
  obtain ⟨left, cnt, R, LL, HB⟩ := hrel
  go_wp2_with (at_next; refine nxM rfl _ rfl 141 keyedA q r 16 f left cnt (by rfl) R.out ?_ ?_)
  ·intro hl0
   have hrb : rbad b ls = false := ue (fun c u hv => by
    cases ht : tch ls c u
    ·rw [im ht, Int.add_zero]
     have := HL.out.rng c u hv
     exact decide_eq_false (by omega)
    ·exact LL.out c u hv ht (hl0 _))
   have HRB := hI_ hrb
   have HA : Hid (AMap wr q 16 (tch ls) (fun c u => b c u + sat ls c u)) := ⟨f, R.out.map, HM2.out, HM3.out⟩
   clear hrb hl0 R LL
   go_wp2_with fail
   refine (kc v ls _ (HH.out.step HB.out) HG.out HLEN.out).mono ?_
   rintro e w4 ⟨rfl, b4⟩
   have HB4 := hI_ (HB.out.trans (b4.mono HB.out.size))
   have HA4 := hI_ (HA.out.step b4)
   have HL4 := hI_ (HL.out.step HB4.out)
   clear b4 HB HA
   cases hb : bal ls
   ·have hp := ng (b := b) HC0.out HRB.out hb
    have HP := hI_ hp
    clear hp hb
    go_wp2_with fail
    go_ret
    exact ⟨by rw [HP.out]; rfl, HL4.out.no (by rw [HP.out]; decide), ac HB4.out _⟩
   ·have hp := vX (b := b) HC0.out HRB.out hb
    have HP := hI_ hp
    clear hp hb
    have c0 := HL4.out.va.cell 0 (v := .map (some m)) rfl
    go_wp2_with fail
    refine (sR m q 16 (tch ls) b (fun c u => b c u + sat ls c u) w4 HL4.out.map HA4.out (fun (e : m = q) => by have := HL.out.map.lt; have := HQ.out; omega)).mono ?_
    rintro e w5 ⟨rfl, a5, u5⟩
    have V5 := HL4.out.va.but u5 (fun e => HPM.out e.symm)
    have HV5 := hI_ V5
    have c1 := V5.cell 1 (v := .int .i64 n) rfl
    have f1 := V5.free 1
    have HA5 := hI_ a5
    have HU5 := hI_ u5
    have hw : IntKind.i64.wrap (n + 1) = n + 1 := by rw [IntKind.wrap_i64]; omega
    clear a5 u5 V5 c0
    go_wp2_with fail
    go_ret
    refine ⟨by rw [HP.out]; rfl, ⟨tY HL.out.rng, ?_, ?_⟩, ?_⟩
    ·unfold pcnt
     rw [if_pos HP.out]
     exact HV5.out.set 1 (.int .i64 (n + 1))
    ·unfold pst
     rw [if_pos HP.out]
     refine (HA5.out.but (au _ p 1 _).but HPM.out).congr (fun _ _ _ => rfl) (fun c u _ _ => ?_)
     cases ht : tch ls c u
     ·rw [im ht]; simp
     ·simp
    ·have u1 : But (fun i => i = p ∨ i = m) w w5 := (ac HB4.out _).trans HU5.out (fun i _ e => Or.inr e)
     exact u1.trans (au _ p 1 _).but (fun i _ e => Or.inl e)
  ·intro x c kl w4 cnt4 hkey hlk hc R4 hlt U4 hen
   obtain ⟨x0, x1, hv, rfl⟩ := HM3.out x kl hkey (by rw [hc]; rfl)
   have hxk : x = ka x0 x1 := keyedA.inj hkey hv.key
   subst hxk
   have hT : tch ls x0 x1 = true := by
    have := HM2.out x0 x1 hv
    rw [hc] at this
    cases e : tch ls x0 x1
    ·rw [e] at this; cases this
    ·rfl
   have hcv : c = dv (b x0 x1 + sat ls x0 x1) 12 := by
    have := HM2.out x0 x1 hv
    rw [hc, hT] at this
    simpa using this
   subst hcv
   obtain ⟨z, hz⟩ : ∃ z, z = b x0 x1 + sat ls x0 x1 := ⟨_, rfl⟩
   have hzb : -(2 * M36) ≤ z ∧ z ≤ 2 * M36 := by
    have h1 := HL.out.rng x0 x1 hv
    have h2 := rC (ls := ls) (fun y hy => by have := HG.out y hy; exact ⟨this.1, this.2.2⟩) x0 x1
    have h4 : ((ls.length : Int)) * M32 ≤ 16 * M32 := Int.mul_le_mul_of_nonneg_right (by have := HLEN.out; omega) (by decide)
    rw [hz]
    unfold M36 M32 at *
    omega
   rw [← hz] at hen ⊢
   have HBY : Hid (∀ w : World, Calls prog 179 #[.agg #[.int .i64 (dhi z), .int .u64 (dlo z), .int .i64 12], .agg #[.int .i64 54210, .int .u64 2003764205206896640, .int .i64 0]] w fun e w' => e = .returned (.bool (out36 z)) ∧ Below w.heap.size w w') := fun w => by
    have := iL z M24 12 w (gV (by omega)) sZ (by decide)
    rw [vF, xE] at this
    exact this
   have HZ := hI_ hz
   have HVA : Hid (Va x0 x1) := hv
   have HMS : Hid (w4.rangeLeft q r = cnt4 ∧ wr.rangeLeft q r = cnt ∧ cnt4 < cnt) := ⟨R4.left_eq, R.out.left_eq, hlt⟩
   have HR4 : Hid (RanF w4 141 q r 16 f (fun z => left z && !z.sameKey (la x0 x1)) cnt4) := R4
   have HB4 := hI_ (HB.out.trans (U4.below HB.out.size (fun i (hi : i = r) => by have := HQR.out; omega)))
   obtain ⟨y0, y1, y2, y3⟩ := (HM.out.step HB4.out).bal
   clear hv hT R4 hlt U4 hc hkey hlk hz hzb
   unfold ka dv at hen
   unfold ka dv
   have z0 : ∀ o : Obj, (w4.alloc o).cell? ⟨2, 0, none⟩ = some (.int .i64 54210) := fun o => (((Below.refl w4.heap.size w4).alloc (Nat.le_refl _) o).cell (p := ⟨2, 0, none⟩) y3).trans y0
   have z1 : ∀ o : Obj, (w4.alloc o).cell? ⟨2, 1, none⟩ = some (.int .u64 2003764205206896640) := fun o => (((Below.refl w4.heap.size w4).alloc (Nat.le_refl _) o).cell (p := ⟨2, 1, none⟩) y3).trans y1
   have z2 : ∀ o : Obj, (w4.alloc o).cell? ⟨2, 2, none⟩ = some (.int .i64 0) := fun o => (((Below.refl w4.heap.size w4).alloc (Nat.le_refl _) o).cell (p := ⟨2, 2, none⟩) y3).trans y2
   go_wp2_with fail
   refine (HBY.out _).mono ?_
   rintro e w5 ⟨rfl, b5⟩
   have b5' := aC b5
   have HR5 : Hid (RanF w5 141 q r 16 f (fun z => left z && !z.sameKey (la x0 x1)) cnt4) := HR4.out.step b5'
   have HB5 := hI_ (HB4.out.trans (b5'.mono HB4.out.size))
   clear b5 b5' HB4 HR4 y0 y1 y2 y3 z0 z1 z2 hen
   cases ho : out36 z
   ·have HO := hI_ ho
    clear ho
    go_wp2_with fail
    refine ⟨⟨_, cnt4, HR5.out, ?_, HB5.out⟩, ?_⟩
    ·intro c u hv ht hf
     simp only [Bool.and_eq_false_iff] at hf
     rcases hf with hf | hf
     ·exact LL.out c u hv ht hf
     ·have : Lit.sameKey (la c u) (la x0 x1) = true := by simpa using hf
      obtain ⟨rfl, rfl⟩ := qp hv HVA.out (WideAt.sameKey_eq this)
      rw [← HZ.out]
      exact HO.out
    ·rw [HR5.out.left_eq, HMS.out.2.1]
     exact HMS.out.2.2
   ·have hp := qR (b := b) HC0.out (kW HVA.out (by rw [← HZ.out]; exact ho))
    have HP := hI_ hp
    clear hp ho
    go_wp2_with fail
    go_ret
    exact ⟨by rw [HP.out]; rfl, (HL.out.step HB5.out).no (by rw [HP.out]; decide), ac HB5.out _⟩
theorem jG (p m : Nat) (b : Int → Int → Int) (n : Int) (v : Value) (ls : List Ln) (w : World) (L : Led w p m b n) (h : Sl LN w v ls) (hwf : ∀ x ∈ ls, x.wf) (Lm : Lim w) (hn : 0 ≤ n ∧ n ≤ 4611686018427387904) :
  Calls prog 140 #[.pointer (some ⟨p, 0, none⟩), v] w fun e w' => e = .returned (.int .i64 (perr b ls)) ∧ Led w' p m (pst b ls) (pcnt b ls n) ∧ But (fun i => i = p ∨ i = m) w w' := by
 by_cases hc : cherr ls = 0
 ·exact oP p m b n v ls w L h hwf Lm hc hn
 ·refine (qV _ v ls w h hwf Lm hc).mono ?_
  rintro e w' ⟨rfl, b'⟩
  exact ⟨by rw [mo hc], (L.step b').no (by rw [mo hc]; exact hc), ac b' _⟩
end Go.Proofs.YtjkiplndbcmmbaaGreatDoor
namespace Go.Proofs.YtjkiplndbcmmbaaGreatDoor
open Tryz
open Go.RowKit Go.Maps
attribute [local go_sem] ap ai ar af ae ag aD av ax ay aN aO aP aQ aR
def lnOf (c u z : Int) : Ln := ⟨c, u, dhi z, dlo z, 12⟩
def trl (b : Int → Int → Int) (n : Nat) : List Ln := ((accs n).filter (fun a => !decide (b a.1 a.2 = 0))).map (fun a => lnOf a.1 a.2 (b a.1 a.2))
theorem ny (b : Int → Int → Int) (n : Nat) : (trl b n).length ≤ n := by
 unfold trl
 rw [List.length_map]
 exact Nat.le_trans (List.length_filter_le _ _) (by rw [cZ]; exact Nat.le_refl _)
theorem wF (b : Int → Int → Int) (n : Nat) (h : b (acc n).1 (acc n).2 = 0) : trl b (n + 1) = trl b n := by
 unfold trl
 rw [fN, List.filter_append]
 simp [h]
theorem uy (b : Int → Int → Int) (n : Nat) (h : b (acc n).1 (acc n).2 ≠ 0) : trl b (n + 1) = trl b n ++ [lnOf (acc n).1 (acc n).2 (b (acc n).1 (acc n).2)] := by
 unfold trl
 rw [fN, List.filter_append]
 simp [h]
theorem rT (p m : Nat) (b : Int → Int → Int) (n : Int) (w : World) (L : Led w p m b n) :
  Calls prog 37 #[.pointer (some ⟨p, 0, none⟩)] w fun e w' => (∃ v, e = .returned v ∧ Own LN w' w.heap.size v (trl b 32)) ∧ Below w.heap.size w w' := by
 have HL := hI_ L
 clear L
 go_enter func37, ntmps37
 go_wp2_with fail
 refine (ge _).mono ?_
 rintro e w1 ⟨⟨v, rfl, o1⟩, b1⟩
 obtain ⟨va, vc, rfl, l1, l2⟩ := o1.form
 rw [cZ] at o1 l1 ⊢
 have HO1 := hI_ o1.sl
 have HB1 := hI_ b1
 have HL1 := hI_ (HL.out.step b1)
 clear o1 b1
 go_wp2_with fail
 go_loopw [3, 11] (fun l i wr => ∃ k : Nat, k ≤ 32 ∧ i = .int .i64 (k : Int) ∧ Hid (Own LN wr w1.heap.size l (trl b k)) ∧ Hid (Below w1.heap.size w1 wr)) (fun _ i _ => 32 - (intOf i).toNat)
 case atStart => exact ⟨0, by omega, rfl, jE _ _ _, Below.refl _ _⟩
 case round =>
  obtain ⟨k, hk, rfl, HO, HB⟩ := hrel
  by_cases h32 : k = 32
  ·subst h32
   go_wp2_with fail
   go_ret
   exact ⟨⟨_, rfl, HO.out.lower HB1.out.size⟩, HB1.out.trans (HB.out.mono HB1.out.size)⟩
  have hk' : k < 32 := by omega
  obtain ⟨bb, off, e, hb, hc⟩ := (HO1.out.step HB.out).at k (acc k) (dP hk')
  cases e
  have hva := lG hk'
  have HYES := hI_ (uy b k)
  have HNO := hI_ (wF b k)
  generalize hac : acc k = x at *
  obtain ⟨x0, x1⟩ := x
  have c0 : wr.cell? ⟨bb, off + k * 2, none⟩ = some (.int .i64 x0) := hc 0 _ rfl
  have c1 : wr.cell? ⟨bb, off + k * 2 + 1, none⟩ = some (.int .i64 x1) := hc 1 _ rfl
  have HVA : Hid (Va x0 x1) := hva
  clear hc hb hac hva
  have d1 : (0 : Int) ≤ (k : Int) := by omega
  have d2 : (k : Int) < 32 := by omega
  obtain ⟨rng, lva, lmap⟩ := HL1.out.step HB.out
  obtain ⟨g, y1, y2, y3⟩ := lmap.ex
  have hg : g (la x0 x1) = some (dv (b x0 x1) 12) := y2 x0 x1 HVA.out
  have hr := rng x0 x1 HVA.out
  obtain ⟨z, hz⟩ : ∃ z, z = b x0 x1 := ⟨_, rfl⟩
  simp only at HYES HNO
  rw [← hz] at hg hr HYES HNO
  have HGG := hI_ hg
  have HZI : Hid (InR z) := gV (by unfold M36 at *; omega)
  clear rng lmap y2 y3 hg hr hz
  have BA := (Below.refl wr.heap.size wr).alloc (Nat.le_refl _) (.cells #[.int .i64 x0, .int .i64 x1] 141)
  go_upto_region 7 with fail
  have HV5 : Hid (VA (wr.alloc (.cells #[.int .i64 x0, .int .i64 x1] 141)) wr.heap.size [.int .i64 x0, .int .i64 x1] 141) := aa wr [.int .i64 x0, .int .i64 x1] 141
  have HP : Hid (VA (wr.alloc (.cells #[.int .i64 x0, .int .i64 x1] 141)) p [.map (some m), .int .i64 n] 144) := lva.step BA
  have HG : Hid (MapF (wr.alloc (.cells #[.int .i64 x0, .int .i64 x1] 141)) 141 m 32 g) := y1.step BA
  have HO2 := hI_ (HO.out.step BA)
  have HB2 := hI_ (HB.out.trans (BA.mono HB.out.size))
  have HQ5 : Hid (w1.heap.size ≤ wr.heap.size) := HB.out.size
  clear BA c0 c1 y1 lva HO HB
  generalize wr.heap.size = q5 at *
  generalize wr.alloc (.cells #[.int .i64 x0, .int .i64 x1] 141) = w2 at *
  refine wp_region_noPanic ?_
  refine wp_region_held_drew (S := fun w' => VA w' p [.map (some m), .int .i64 n] 144 ∧ VA w' q5 [.int .i64 x0, .int .i64 x1] 141 ∧ MapF w' 141 m 32 g) (by kernel_rfl) ⟨HP.out.drew, HV5.out.drew, HG.out.step (Below.refl _ _).drew⟩ (fun hh_ => ?_)
  refine tL 0 15 (.pointer (some ⟨p, 0, none⟩)) ?_ ?_
  ·intro wq hS
   go_simp
  try simp only [nrm]
  refine tL 1 16 (.pointer (some ⟨p, 0, none⟩)) ?_ ?_
  ·intro wq hS
   go_simp
  try simp only [nrm]
  refine tL 2 17 (.pointer (some ⟨p, 0, none⟩)) ?_ ?_
  ·intro wq hS
   go_simp
  try simp only [nrm]
  refine tL 3 18 (.map (some m)) ?_ ?_
  ·intro wq hS
   have e0 := hS.1.cell 0 (v := .map (some m)) rfl
   go_simp
  try simp only [nrm]
  refine tL 4 19 (.agg #[.int .i64 x0, .int .i64 x1]) ?_ ?_
  ·intro wq hS
   have e0 := hS.2.1.cell 0 (v := .int .i64 x0) rfl
   have e1 := hS.2.1.cell 1 (v := .int .i64 x1) rfl
   go_simp
  try simp only [nrm]
  refine tL 5 20 (.agg #[.int .i64 (dhi z), .int .u64 (dlo z), .int .i64 12]) ?_ ?_
  ·intro wq hS
   have e0 := hS.2.2.look keyedA underlying142 (lD wq) HVA.out.key
   rw [HGG.out] at e0
   unfold ka dv at e0
   go_simp
  try simp only [nrm]
  clear hh_
  refine rdy 6 (fun K hK => ?_)
  go_simp
  have BA := ((Below.refl w2.heap.size w2).alloc (Nat.le_refl _) (.cells #[.int .i64 0, .int .u64 0, .int .i64 0] 44)).drew
  refine hK.out _ _ ⟨HP.out.step BA, HV5.out.step BA, HG.out.step BA⟩ (fun hh_ => ?_)
  clear hK K hh_
  try simp only [nrm]
  have HV6 : Hid (VA (w2.alloc (.cells #[.int .i64 0, .int .u64 0, .int .i64 0] 44)).drew w2.heap.size [.int .i64 0, .int .u64 0, .int .i64 0] 44) := (aa w2 [.int .i64 0, .int .u64 0, .int .i64 0] 44).drew
  have HU5' := hI_ (HV5.out.step BA)
  have HP' := hI_ (HP.out.step BA)
  have HG' : Hid (MapF (w2.alloc (.cells #[.int .i64 0, .int .u64 0, .int .i64 0] 44)).drew 141 m 32 g) := HG.out.step BA
  have HO3 := hI_ (HO2.out.step BA)
  have HB3 := hI_ (HB2.out.trans (BA.mono HB2.out.size))
  have HQ6 : Hid (w1.heap.size ≤ w2.heap.size ∧ q5 < w2.heap.size) := ⟨HB2.out.size, HV5.out.lt⟩
  have HPQ : Hid (¬ (fun i => i = w2.heap.size) p) := fun (e : p = w2.heap.size) => by have := HP.out.lt; omega
  have HOQ : Hid (∀ gg, Value.ownBlock _ = some gg → ¬ (fun i => i = w2.heap.size) gg) := fun gg hgg (e : gg = w2.heap.size) => by have := HO2.out.lt gg hgg; omega
  clear BA HP HV5 HG HO2 HB2
  generalize w2.heap.size = q6 at *
  generalize (w2.alloc (.cells #[.int .i64 0, .int .u64 0, .int .i64 0] 44)).drew = w3 at *
  refine rdy 7 (fun K hK => ?_)
  refine stD (by rfl) (by rfl) 44 _ _ (by rfl) q6 (by rfl) [.int .i64 0, .int .u64 0, .int .i64 0] [.int .i64 (dhi z), .int .u64 (dlo z), .int .i64 12] (by rfl) 44 HV6.out dA rfl (mM z) ?_
  intro w4 v4 u4
  have U4 := u4.but
  have HU5 := hI_ (HU5'.out.but U4 (fun (e : q5 = q6) => by have := HQ6.out; omega))
  have HU6 := hI_ v4
  have HO4 := hI_ (HO3.out.but U4 HOQ.out)
  have HB4 := hI_ (HB3.out.trans (U4.below HB3.out.size (fun i (hi : i = q6) => by have := HQ6.out; omega)))
  refine hK.out _ _ ⟨HP'.out.but U4 HPQ.out, HU5.out, HG'.out.but U4 (fun e => (HV6.out.notF HG'.out) e.symm)⟩ (fun hh_ => ?_)
  clear hK K hh_ u4 U4 v4 HO3 HB3 HU5' HP' HG' HV6
  refine dN ?_
  go_upto_region 8 with fail
  have c0 := HU6.out.cell 0 (v := .int .i64 (dhi z)) rfl
  have c1 := HU6.out.cell 1 (v := .int .u64 (dlo z)) rfl
  have c2 := HU6.out.cell 2 (v := .int .i64 12) rfl
  have HN := hI_ (fun w => gn z 12 w HZI.out (by decide))
  unfold dv at HN
  go_wp2_with fail
  refine (HN.out _).mono ?_
  rintro e w5 ⟨rfl, b5⟩
  have HO5 := hI_ (HO4.out.step b5)
  have HB5 := hI_ (HB4.out.trans (b5.mono HB4.out.size))
  have V5 := HU5.out.step b5
  have V6 := HU6.out.step b5
  clear b5 HO4 HB4 HU5 HU6 c0 c1 c2
  by_cases hz : z = 0
  ·rw [decide_eq_true hz]
   have HZ := hI_ hz
   clear hz V5 V6
   go_wp2_with fail
   exact ⟨⟨k + 1, by omega, by go_num, by rw [HNO.out HZ.out]; exact HO5.out, HB5.out⟩, by simp [intOf]; omega⟩
  ·rw [decide_eq_false hz]
   have HZ := hI_ hz
   clear hz
   have c0 := V6.cell 0 (v := .int .i64 (dhi z)) rfl
   have c1 := V6.cell 1 (v := .int .u64 (dlo z)) rfl
   have c2 := V6.cell 2 (v := .int .i64 12) rfl
   have k0 := V5.cell 0 (v := .int .i64 x0) rfl
   have k1 := V5.cell 1 (v := .int .i64 x1) rfl
   clear V5 V6
   go_wp2_with (at_builtin; refine pj (K := LN) rfl _ _ rfl w1.heap.size (trl b k) _ (lnOf x0 x1 z) (by rfl) (by rfl) HO5.out HB5.out.size (by have := ny b k; show ((trl b k).length + 1) * 40 ≤ _; omega) (by have := ny b k; omega) _ rfl ?_; intro v6 w6 o6 b6)
   exact ⟨⟨k + 1, by omega, by go_num, by rw [HYES.out HZ.out]; exact o6, HB5.out.trans b6⟩, by simp [intOf]; omega⟩
end Go.Proofs.YtjkiplndbcmmbaaGreatDoor