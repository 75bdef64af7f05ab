/- texts of the model: Cta Ctb Ctc Kb Kc Kd Bb Bc -/
import Derived.Test.YtjkiplndbcmmbaaGreatDoorW19
import Derived.Test.YtjkiplndbcmmbaaGreatDoorW12
import Derived.Test.YtjkiplndbcmmbaaGreatDoorW11
import Derived.Test.YtjkiplndbcmmbaaGreatDoorW16
import Derived.Test.YtjkiplndbcmmbaaGreatDoorW03
import Derived.Deep.DeepCutAuto
set_option linter.unusedVariables false
set_option linter.unusedSimpArgs false
set_option maxHeartbeats 16000000
set_option maxRecDepth 100000
namespace Go.Proofs.YtjkiplndbcmmbaaGreatDoor
open Tryz
open Go.RowKit
attribute [local go_sem] ap ai ar af ae ag aD av ax ay aN aO aP aQ aR
theorem jl (n : Int) (w : World) : Calls prog 104 #[.int .i64 n] w fun e w' => e = .returned (.bool (wi n (1) 8)) ∧ w' = w := by
 unfold wi
 by_cases h1 : 1 ≤ n
 ·by_cases h2 : n ≤ 8
  ·rw [show decide (1 ≤ n ∧ n ≤ 8) = true by simp; omega]
   go_enter func104, ntmps104
   go_wp2_with fail
   go_ret
   exact ⟨rfl, rfl⟩
  ·rw [show decide (1 ≤ n ∧ n ≤ 8) = false by simp; omega]
   go_enter func104, ntmps104
   go_wp2_with fail
   go_ret
   exact ⟨rfl, rfl⟩
 ·rw [show decide (1 ≤ n ∧ n ≤ 8) = false by simp; omega]
  go_enter func104, ntmps104
  go_wp2_with fail
  go_ret
  exact ⟨rfl, rfl⟩
theorem jh (c : Int) (w : World) : Calls prog 105 #[.int .i64 c] w fun e w' => e = .returned (.bool (wi c 0 3)) ∧ Below w.heap.size w w' := by
 cases h : wi c 0 3
 ·have hf : mform c 0 = false := by unfold mform; rw [h]; rfl
  go_enter func105, ntmps105
  go_wp2_with fail
  refine (fP c 0 _).mono ?_
  rintro e w1 ⟨rfl, b1⟩
  rw [hf]
  go_wp2_with fail
  go_ret
  exact ⟨rfl, b1⟩
 ·have hf : mform c 0 = true := by unfold mform; rw [h]; rfl
  go_enter func105, ntmps105
  go_wp2_with fail
  refine (fP c 0 _).mono ?_
  rintro e w1 ⟨rfl, b1⟩
  rw [hf]
  go_wp2_with fail
  go_ret
  exact ⟨rfl, b1⟩
theorem xC : dhi 0 = 0 := by decide
theorem xD : dlo 0 = 0 := by decide
theorem oK (w : World) : Calls prog 79 #[] w fun e w' => e = .returned (dv 0 12) ∧ Below w.heap.size w w' := by
 rw [show dv 0 12 = .agg #[.int .i64 0, .int .u64 0, .int .i64 12] by unfold dv; rw [xC, xD]]
 go_enter func79, ntmps79
 go_wp2_with fail
 refine bodyPost_ret (v := .agg #[.int .i64 0, .int .u64 0, .int .i64 12]) (by simp [results, results79, go_sem]) rfl ⟨rfl, ?_⟩
 exact bl_
theorem kh (ca cb : Int) (sa sb : Nat) (w : World) (ia : InR ca) (ib : InR cb) (hsa : (sa : Int) ≤ 18) (hsb : (sb : Int) ≤ 18) (h : InR (tv ca sa cb sb)) :
  Calls prog 198 #[dv ca sa, dv cb sb] w fun e w' => e = .returned (dv (tv ca sa cb sb) ((max sa sb : Nat) : Int)) ∧ Below w.heap.size w w' := by
 have C : Hid _ := fun w => mF ca cb sa sb w ia ib hsa hsb h
 unfold dv
 generalize tv ca sa cb sb = z at *
 generalize max sa sb = m at *
 clear ia ib hsa hsb h
 go_enter func198, ntmps198
 go_wp2_with (go_at_call 30; refine (C.out _).mono ?_; rintro e w1 ⟨rfl, hb1⟩; obtain ⟨x, rfl⟩ := a9 hb1; clear hb1)
 refine bodyPost_ret (v := .agg #[.int .i64 (dhi z), .int .u64 (dlo z), .int .i64 m]) (by simp [results, results198, go_sem]) rfl ⟨rfl, ?_⟩
 exact bl_
theorem gn (c : Int) (s : Nat) (w : World) (ic : InR c) (hs : (s : Int) ≤ 18) :
  Calls prog 70 #[dv c s] w fun e w' => e = .returned (.bool (decide (c = 0))) ∧ Below w.heap.size w w' := by
 have C : Hid _ := fun w => uo c _ _ s w (IsD.self _) ic hs
 have e1 : (sgn c == 0) = decide (c = 0) := by
  unfold sgn
  by_cases h0 : c = 0
  ·subst h0; decide
  ·rw [decide_eq_false h0]
   rw [if_neg h0]
   split <;> rfl
 unfold dv
 generalize decide (c = 0) = q at *
 generalize sgn c = z at *
 clear ic hs
 go_enter func70, ntmps70
 go_wp2_with (go_at_call 106; refine (C.out _).mono ?_; rintro e w1 ⟨rfl, hb1⟩; obtain ⟨x, rfl⟩ := a9 hb1; clear hb1)
 go_ret
 refine ⟨by simp, ?_⟩
 exact bl_
def far (c : Int) (s : Nat) (b : Int) : Bool := decide (b * (10 : Int) ^ s < c ∨ c < -(b * (10 : Int) ^ s))
theorem xZ (c : Int) (s : Nat) (b : Int) : tv c s b 0 = c + b * (10 : Int) ^ s := by unfold tv; simp
theorem uj {z : Int} : 0 < sgn z ↔ 0 < z := by unfold sgn; split; omega; split <;> omega
theorem ws {z : Int} : sgn z < 0 ↔ z < 0 := by unfold sgn; split; omega; split <;> omega
theorem iL (c b : Int) (s : Nat) (w : World) (ic : InR c) (ib : InR b) (hs : (s : Int) ≤ 18) :
  Calls prog 179 #[dv c s, dv b 0] w fun e w' => e = .returned (.bool (far c s b)) ∧ Below w.heap.size w w' := by
 have N : Hid (∀ w : World, Calls prog 199 #[.agg #[.int .i64 (dhi b), .int .u64 (dlo b), .int .i64 0]] w fun e w' => e = .returned (.tuple #[.agg #[.int .i64 (dhi (-b)), .int .u64 (dlo (-b)), .int .i64 0], .int .i64 0]) ∧ Below w.heap.size w w') := fun w => vV b _ _ 0 w (IsD.self _) ib (by decide)
 obtain ⟨x, hx⟩ : ∃ x, x = sgn (tv c s (-b) 0) := ⟨_, rfl⟩
 obtain ⟨y, hy⟩ : ∃ y, y = sgn (tv c s (-(-b)) 0) := ⟨_, rfl⟩
 have C1 : Hid (∀ w : World, Calls prog 36 #[.agg #[.int .i64 (dhi c), .int .u64 (dlo c), .int .i64 s], .agg #[.int .i64 (dhi b), .int .u64 (dlo b), .int .i64 0]] w fun e w' => e = .returned (.tuple #[.int .i64 x, .int .i64 0]) ∧ Below w.heap.size w w') := fun w => by rw [hx]; exact gw c b s 0 w ic ib hs (by decide)
 have C2 : Hid (∀ w : World, Calls prog 36 #[.agg #[.int .i64 (dhi c), .int .u64 (dlo c), .int .i64 s], .agg #[.int .i64 (dhi (-b)), .int .u64 (dlo (-b)), .int .i64 0]] w fun e w' => e = .returned (.tuple #[.int .i64 y, .int .i64 0]) ∧ Below w.heap.size w w') := fun w => by rw [hy]; exact gw c (-b) s 0 w ic ib.neg hs (by decide)
 have ex : (0 < x) ↔ b * (10 : Int) ^ s < c := by rw [hx, uj, xZ, Int.neg_mul]; omega
 have ey : (y < 0) ↔ c < -(b * (10 : Int) ^ s) := by rw [hy, ws, xZ, Int.neg_neg]; omega
 have ef : far c s b = (decide (0 < x) || decide (y < 0)) := by unfold far; rw [← Bool.decide_or]; exact decide_eq_decide.2 (by rw [ex, ey])
 unfold dv
 rw [ef]
 clear ex ey ef hx hy ic ib hs
 by_cases h1 : 0 < x
 ·rw [decide_eq_true h1]
  go_enter func179, ntmps179
  go_wp2_with fail
  refine (N.out _).mono ?_
  rintro e w1 ⟨rfl, hb1⟩; obtain ⟨x1, rfl⟩ := a9 hb1; clear hb1
  go_wp2_with fail
  refine (C1.out _).mono ?_
  rintro e w1 ⟨rfl, hb1⟩; obtain ⟨x2, rfl⟩ := a9 hb1; clear hb1
  go_wp2_with fail
  refine (C2.out _).mono ?_
  rintro e w1 ⟨rfl, hb1⟩; obtain ⟨x3, rfl⟩ := a9 hb1; clear hb1
  go_wp2_with fail
  go_ret
  refine ⟨rfl, ?_⟩
  exact bl_
 ·rw [decide_eq_false h1]
  by_cases h2 : y < 0
  ·rw [decide_eq_true h2]
   go_enter func179, ntmps179
   go_wp2_with fail
   refine (N.out _).mono ?_
   rintro e w1 ⟨rfl, hb1⟩; obtain ⟨x1, rfl⟩ := a9 hb1; clear hb1
   go_wp2_with fail
   refine (C1.out _).mono ?_
   rintro e w1 ⟨rfl, hb1⟩; obtain ⟨x2, rfl⟩ := a9 hb1; clear hb1
   go_wp2_with fail
   refine (C2.out _).mono ?_
   rintro e w1 ⟨rfl, hb1⟩; obtain ⟨x3, rfl⟩ := a9 hb1; clear hb1
   go_wp2_with fail
   go_ret
   refine ⟨rfl, ?_⟩
   exact bl_
  ·rw [decide_eq_false h2]
   go_enter func179, ntmps179
   go_wp2_with fail
   refine (N.out _).mono ?_
   rintro e w1 ⟨rfl, hb1⟩; obtain ⟨x1, rfl⟩ := a9 hb1; clear hb1
   go_wp2_with fail
   refine (C1.out _).mono ?_
   rintro e w1 ⟨rfl, hb1⟩; obtain ⟨x2, rfl⟩ := a9 hb1; clear hb1
   go_wp2_with fail
   refine (C2.out _).mono ?_
   rintro e w1 ⟨rfl, hb1⟩; obtain ⟨x3, rfl⟩ := a9 hb1; clear hb1
   go_wp2_with fail
   go_ret
   refine ⟨by simp [h1, h2], ?_⟩
   exact bl_
structure Lim (w : World) : Prop where
 bal : At3 w 2 (.int .i64 54210) (.int .u64 2003764205206896640) (.int .i64 0)
 amt : At3 w 5 (.int .i64 5) (.int .u64 7766279631452241920) (.int .i64 0)
theorem Lim.step {w w' : World} (h : Lim w) (k : Below w.heap.size w w') : Lim w' := ⟨h.bal.step k, h.amt.step k⟩
theorem Lim.alloc {w : World} (h : Lim w) (o : Obj) : Lim (w.alloc o) := h.step ((Below.refl _ _).alloc (Nat.le_refl _) o)
theorem Lim.blk {w w' : World} (h : Lim w) (s : w.heap.size ≤ w'.heap.size) (k : ∀ b, b ≤ 5 → w'.heap[b]? = w.heap[b]?) : Lim w' := by
 have t : ∀ b i, b ≤ 5 → w'.cell? ⟨b, i, none⟩ = w.cell? ⟨b, i, none⟩ := fun b i hb => World.cell?_of_block (w := w) (w' := w') (a := ⟨b, i, none⟩) (k b hb)
 exact ⟨⟨(t _ _ (by omega)).trans h.bal.c0, (t _ _ (by omega)).trans h.bal.c1, (t _ _ (by omega)).trans h.bal.c2, Nat.lt_of_lt_of_le h.bal.lt s⟩, ⟨(t _ _ (by omega)).trans h.amt.c0, (t _ _ (by omega)).trans h.amt.c1, (t _ _ (by omega)).trans h.amt.c2, Nat.lt_of_lt_of_le h.amt.lt s⟩⟩
def M20 : Int := 100000000000000000000
def M24 : Int := 1000000000000000000000000
theorem vE : dv M20 0 = .agg #[.int .i64 5, .int .u64 7766279631452241920, .int .i64 0] := by
 unfold dv
 rw [show dhi M20 = 5 by decide, show dlo M20 = 7766279631452241920 by decide]
theorem vF : dv M24 0 = .agg #[.int .i64 54210, .int .u64 2003764205206896640, .int .i64 0] := by
 unfold dv
 rw [show dhi M24 = 54210 by decide, show dlo M24 = 2003764205206896640 by decide]
theorem sY : InR M20 := ⟨by decide, by decide⟩
theorem sZ : InR M24 := ⟨by decide, by decide⟩
structure Ln where
 code : Int
 cur : Int
 h : Int
 l : Int
 s : Int
structure Ln.wf (x : Ln) : Prop where
 code : -9223372036854775808 ≤ x.code ∧ x.code ≤ 9223372036854775807
 cur : -9223372036854775808 ≤ x.cur ∧ x.cur ≤ 9223372036854775807
 h : (Lit.int .i64 x.h).wf = true
 l : (Lit.int .u64 x.l).wf = true
 s : -9223372036854775808 ≤ x.s ∧ x.s ≤ 9223372036854775807
def Ln.enc (x : Ln) : List Value := [.int .i64 x.code, .int .i64 x.cur, .int .i64 x.h, .int .u64 x.l, .int .i64 x.s]
def Ln.cf (x : Ln) : Int := x.h * 18446744073709551616 + x.l
def Ln.pl (x : Ln) : Bool := wi x.code 1 8 && wi x.cur 0 3
def Ln.ok (x : Ln) : Bool := decide (0 ≤ x.s ∧ x.s ≤ 12) && !(far x.cf x.s.toNat M20)
theorem uD {h l s : Int} {c : Int} (h1 : h = dhi c) (h2 : l = dlo c) : h * 18446744073709551616 + l = c := by
 subst h1 h2
 unfold dhi dlo
 omega
theorem mb : (prog.info? 91).map (fun i => (i.zero, i.size, i.bytes)) = some (some (.agg #[.int .i64 0, .int .i64 0, .int .i64 0, .int .u64 0, .int .i64 0]), 5, 40) := by kernel_rfl
def LN : Kd Ln where
 T := 91
 S := 46
 k := 5
 bt := 40
 enc := Ln.enc
 info := by
  obtain ⟨i, hi, hz⟩ := Option.map_eq_some_iff.1 mb
  simp only [Prod.mk.injEq] at hz
  exact ⟨i, _, hi, hz.1, hz.2.1, hz.2.2, rfl⟩
 und := underlying46
 pos := by decide
 len := fun x => rfl
 one := by
  intro x v hv
  simp [Ln.enc] at hv
  rcases hv with rfl | rfl | rfl | rfl | rfl <;> rfl
theorem qQ {n : Nat} (h : n ≤ 12) : (10 : Int) ^ n ≤ 10 ^ 12 := by
 have : ((10 ^ n : Nat) : Int) ≤ ((10 ^ 12 : Nat) : Int) := Int.ofNat_le.2 (Nat.pow_le_pow_right (by decide) h)
 simpa using this
theorem ju (h l s : Int) (w : World) (hb : Bad h l s) :
  Calls prog 197 #[.agg #[.int .i64 h, .int .u64 l, .int .i64 s]] w fun e w' => e = .returned (.bool false) ∧ Below w.heap.size w w' := by
 have H : Hid _ := hb
 clear hb
 go_enter func197, ntmps197
 go_wp2_with fail
 refine (nS _ _ _ _ H.out).mono ?_
 rintro e w1 ⟨rfl, hb1⟩; obtain ⟨x1, rfl⟩ := a9 hb1; clear hb1
 go_wp2_with fail
 go_ret
 refine ⟨rfl, ?_⟩
 exact bl_
theorem iD (c : Int) (s : Nat) (w : World) (ic : InR c) (hs : (s : Int) ≤ 18) (h : ¬ (s : Int) ≤ 12) :
  Calls prog 197 #[dv c s] w fun e w' => e = .returned (.bool false) ∧ Below w.heap.size w w' := by
 have C : Hid _ := fun w => cI c _ _ s w (IsD.self _) ic hs
 clear ic hs
 unfold dv
 generalize dhi c = x at *
 generalize dlo c = y at *
 go_enter func197, ntmps197
 go_wp2_with fail
 refine (C.out _).mono ?_
 rintro e w1 ⟨rfl, hb1⟩; obtain ⟨x1, rfl⟩ := a9 hb1; clear hb1
 go_wp2_with fail
 go_ret
 refine ⟨by simp, ?_⟩
 exact bl_
theorem ky (c : Int) (s : Nat) (w : World) (L : Lim w) (ic : InR c) (hs : (s : Int) ≤ 12) :
  Calls prog 197 #[dv c s] w fun e w' => e = .returned (.bool (!(far c s M20))) ∧ Below w.heap.size w w' := by
 have C : Hid _ := fun w => cI c _ _ s w (IsD.self _) ic (by omega)
 have D : Hid (∀ w : World, Calls prog 179 #[.agg #[.int .i64 (dhi c), .int .u64 (dlo c), .int .i64 s], .agg #[.int .i64 5, .int .u64 7766279631452241920, .int .i64 0]] w fun e w' => e = .returned (.bool (far c s M20)) ∧ Below w.heap.size w w') := by
  intro w
  have := iL c M20 s w ic sY (by omega)
  rw [vE] at this
  exact this
 have HL : Hid _ := L
 clear ic L
 unfold dv
 generalize far c s M20 = q at *
 generalize dhi c = x at *
 generalize dlo c = y at *
 go_enter func197, ntmps197
 go_wp2_with fail
 refine (C.out _).mono ?_
 rintro e w1 ⟨rfl, hb1⟩
 obtain ⟨a0, a1, a2, a3⟩ := (HL.out.step (aC hb1)).amt
 obtain ⟨x1, rfl⟩ := a9 hb1; clear hb1
 go_wp2_with fail
 refine (D.out _).mono ?_
 rintro e w1 ⟨rfl, hb1⟩; obtain ⟨x2, rfl⟩ := a9 hb1; clear hb1
 go_wp2_with fail
 go_ret
 refine ⟨by simp, ?_⟩
 exact bl_
theorem jt (x : Ln) (hx : x.wf) (w : World) (L : Lim w) :
  Calls prog 197 #[.agg #[.int .i64 x.h, .int .u64 x.l, .int .i64 x.s]] w fun e w' => e = .returned (.bool x.ok) ∧ Below w.heap.size w w' := by
 rcases gS x.h x.l x.s hx.h hx.l with hb | ⟨c, n, h1, h2, h3, ic, hn⟩
 ·have e : x.ok = false := by
   unfold Ln.ok
   rcases hb with hb | ⟨e1, e2⟩
   ·rw [decide_eq_false (by omega)]; rfl
   ·by_cases hs : 0 ≤ x.s ∧ x.s ≤ 12
    ·have hp : (0 : Int) < (10 : Int) ^ x.s.toNat ∧ (10 : Int) ^ x.s.toNat ≤ 10 ^ 12 := ⟨Int.pow_pos (by decide), qQ (by omega)⟩
     have : far x.cf x.s.toNat M20 = true := by
      unfold far Ln.cf
      rw [e1, e2]
      apply decide_eq_true
      right
      generalize (10 : Int) ^ x.s.toNat = p at *
      unfold M20
      have h12 : (10 : Int) ^ 12 = 1000000000000 := by decide
      omega
     rw [this]; simp
    ·rw [decide_eq_false hs]; rfl
  rw [e]
  exact ju _ _ _ _ hb
 ·have ec : x.cf = c := uD (s := x.s) h1 h2
  unfold Ln.ok
  rw [ec, h1, h2, h3]
  by_cases hs : (n : Int) ≤ 12
  ·rw [decide_eq_true (by omega), Int.toNat_natCast, Bool.true_and]
   exact ky c n w L ic hs
  ·rw [decide_eq_false (by omega), Bool.false_and]
   exact iD c n w ic hn hs
def cherr (ls : List Ln) : Int := if ls.any (fun x => !x.pl) then 1 else if 16 < ls.length then 2 else if ls.any (fun x => !x.ok) then 3 else 0
theorem sL {ls : List Ln} {k : Nat} {x : Ln} (hx : ls[k]? = some x) (h : x.pl = false) : cherr ls = 1 := by
 unfold cherr
 rw [if_pos (List.any_eq_true.2 ⟨x, List.mem_of_getElem? hx, by rw [h]; rfl⟩)]
theorem jg {ls : List Ln} {f : Ln → Bool} {n : Nat} (hn : n = ls.length) (h : ∀ x ∈ ls.take n, f x = true) : ls.any (fun x => !f x) = false := by
 rw [hn, List.take_length] at h
 rw [List.any_eq_false]
 intro x hx
 rw [h x hx]
 simp
theorem j9 {ls : List Ln} {f : Ln → Bool} {k : Nat} {x : Ln} (h : ∀ x ∈ ls.take k, f x = true) (hx : ls[k]? = some x) (hf : f x = true) : ∀ x ∈ ls.take (k + 1), f x = true := by
 intro y hy
 rw [List.take_add_one, hx] at hy
 rcases List.mem_append.1 hy with hy | hy
 ·exact h y hy
 ·simp at hy; subst hy; exact hf
theorem iO (v : Value) (ls : List Ln) (w : World) (h : Sl LN w v ls) (hwf : ∀ x ∈ ls, x.wf) (L : Lim w) :
  Calls prog 177 #[v] w fun e w' => e = .returned (.int .i64 (cherr ls)) ∧ Below w.heap.size w w' := by
 obtain ⟨n, hn⟩ : ∃ n, n = ls.length := ⟨_, rfl⟩
 have H : Hid _ := h
 obtain ⟨ta, tc, rfl, g1, g2⟩ : ∃ a c, v = .slice a n c ∧ n ≤ c ∧ c ≤ 9223372036854775807 := by obtain ⟨a, c, e, h1, h2, _⟩ := h; exact ⟨a, c, by rw [hn]; exact e, by rw [hn]; exact h1, h2⟩
 have HN : Hid _ := hn
 have HL : Hid _ := L
 have HW : Hid _ := hwf
 clear h hn L hwf
 go_enter func177, ntmps177
 go_wp2_with fail
 go_loopw [9] (fun i wr => ∃ k : Nat, k ≤ n ∧ i = .int .i64 k ∧ Hid (∀ x ∈ ls.take k, x.pl = true) ∧ Below w.heap.size w wr) (fun i _ => n - (intOf i).toNat)
 case atStart => exact ⟨0, by omega, rfl, (by intro x hx; simp at hx), Below.refl _ _⟩
 case round =>
  obtain ⟨k, hk, rfl, HG, hbel⟩ := hrel
  have HB : Hid _ := hbel
  clear hbel
  by_cases hkn : k = n
  ·subst hkn
   by_cases h16 : (16 : Int) < (k : Int)
   ·go_wp2_with fail
    go_ret
    exact ⟨by unfold cherr; rw [jg HN.out HG.out, if_neg (by simp), if_pos (by have := HN.out; omega)]; rfl, HB.out⟩
   ·go_wp2_with fail
    go_loopw [29] (fun i wr => ∃ m : Nat, m ≤ k ∧ i = .int .i64 m ∧ Hid (∀ x ∈ ls.take m, x.ok = true) ∧ Below w.heap.size w wr) (fun i _ => k - (intOf i).toNat)
    case atStart => exact ⟨0, by omega, rfl, (by intro x hx; simp at hx), HB.out⟩
    case round =>
     obtain ⟨m, hm, rfl, HO, hbel⟩ := hrel
     have HB1 : Hid _ := hbel
     clear hbel
     by_cases hmk : m = k
     ·subst hmk
      go_wp2_with fail
      go_ret
      exact ⟨by unfold cherr; rw [jg HN.out HG.out, if_neg (by simp), if_neg (by have := HN.out; omega), jg HN.out HO.out, if_neg (by simp)]; rfl, HB1.out⟩
     have hm' : m < k := by omega
     obtain ⟨x, hx⟩ : ∃ x, ls[m]? = some x := ⟨ls[m]'(by have := HN.out; omega), by simp⟩
     obtain ⟨b, off, e, hb, hc⟩ := (H.out.step HB1.out).at m x hx
     cases e
     have c0 : wr.cell? ⟨b, off + m * 5, none⟩ = some (.int .i64 x.code) := hc 0 _ rfl
     have c1 : wr.cell? ⟨b, off + m * 5 + 1, none⟩ = some (.int .i64 x.cur) := hc 1 _ rfl
     have c2 : wr.cell? ⟨b, off + m * 5 + 2, none⟩ = some (.int .i64 x.h) := hc 2 _ rfl
     have c3 : wr.cell? ⟨b, off + m * 5 + 3, none⟩ = some (.int .u64 x.l) := hc 3 _ rfl
     have c4 : wr.cell? ⟨b, off + m * 5 + 4, none⟩ = some (.int .i64 x.s) := hc 4 _ rfl
     have d1 : (0 : Int) ≤ (m : Int) := by omega
     have d2 : (m : Int) < (k : Int) := by omega
     clear hc
     have HA : Hid _ := fun w L => jt x (HW.out x (List.mem_of_getElem? hx)) w L
     have HX : Hid _ := hx
     clear hx hb
     have HL1 : Hid _ := HL.out.step HB1.out
     have HNX : Hid (x.ok = true → ∀ x ∈ ls.take (m + 1), x.ok = true) := fun hf => j9 HO.out HX.out hf
     have HBX : Hid (x.ok = false → ls.any (fun x => !x.ok) = true) := fun hf => List.any_eq_true.2 ⟨x, List.mem_of_getElem? HX.out, by rw [hf]; rfl⟩
     clear HX
     generalize x.ok = q at *
     obtain ⟨x0, x1, x2, x3, x4⟩ := x
     go_wp2_with fail
     refine (HA.out _ (HL1.out.alloc _)).mono ?_
     rintro e w2 ⟨rfl, b2⟩
     have HB2 : Hid _ := HB1.out.trans ((aC b2).mono HB1.out.size)
     clear b2
     cases q
     ·go_wp2_with fail
      go_ret
      exact ⟨by unfold cherr; rw [jg HN.out HG.out, if_neg (by simp), if_neg (by have := HN.out; omega), if_pos (HBX.out (by trivial))]; rfl, HB2.out⟩
     ·go_wp2_with fail
      exact ⟨⟨m + 1, by omega, by go_num, HNX.out (by trivial), HB2.out⟩, by simp [intOf]; omega⟩
  have hk' : k < n := by omega
  obtain ⟨x, hx⟩ : ∃ x, ls[k]? = some x := ⟨ls[k]'(by have := HN.out; omega), by simp⟩
  obtain ⟨b, off, e, hb, hc⟩ := (H.out.step HB.out).at k x hx
  cases e
  have c0 : wr.cell? ⟨b, off + k * 5, none⟩ = some (.int .i64 x.code) := hc 0 _ rfl
  have c1 : wr.cell? ⟨b, off + k * 5 + 1, none⟩ = some (.int .i64 x.cur) := hc 1 _ rfl
  have c2 : wr.cell? ⟨b, off + k * 5 + 2, none⟩ = some (.int .i64 x.h) := hc 2 _ rfl
  have c3 : wr.cell? ⟨b, off + k * 5 + 3, none⟩ = some (.int .u64 x.l) := hc 3 _ rfl
  have c4 : wr.cell? ⟨b, off + k * 5 + 4, none⟩ = some (.int .i64 x.s) := hc 4 _ rfl
  have d1 : (0 : Int) ≤ (k : Int) := by omega
  have d2 : (k : Int) < (n : Int) := by omega
  clear hc
  have HP : Hid (x.pl = (wi x.code 1 8 && wi x.cur 0 3)) := rfl
  have HNX : Hid (x.pl = true → ∀ x ∈ ls.take (k + 1), x.pl = true) := fun hf => j9 HG.out hx hf
  have HBX : Hid (x.pl = false → cherr ls = 1) := fun hf => sL hx hf
  clear hx hb
  generalize x.pl = q at *
  obtain ⟨x0, x1, x2, x3, x4⟩ := x
  simp only at c0 c1 c2 c3 c4 HP
  go_wp2_with fail
  refine (jl _ _).mono ?_
  rintro e w1 ⟨rfl, hq⟩
  obtain rfl := hq.symm
  cases p1 : wi x0 1 8
  ·go_wp2_with fail
   go_ret
   exact ⟨by rw [HBX.out (by rw [HP.out, p1]; rfl)]; rfl, HB.out.alloc HB.out.size _⟩
  ·go_wp2_with fail
   refine (jh _ _).mono ?_
   rintro e w2 ⟨rfl, b2⟩
   have HB2 : Hid _ := HB.out.trans ((aC b2).mono HB.out.size)
   clear b2
   cases p2 : wi x1 0 3
   ·go_wp2_with fail
    go_ret
    exact ⟨by rw [HBX.out (by rw [HP.out, p1, p2]; rfl)]; rfl, HB2.out⟩
   ·go_wp2_with fail
    exact ⟨⟨k + 1, by omega, by go_num, HNX.out (by rw [HP.out, p1, p2]; rfl), HB2.out⟩, by simp [intOf]; omega⟩
theorem aU : (prog.info? 44).map (·.size) = some 3 := by kernel_rfl
def zdl : List Value := [.int .i64 0, .int .u64 0, .int .i64 0]
theorem b8 {x : Int} (h1 : 0 ≤ x) (h2 : x ≤ 1000000000000000000000000000000000000) : InR x := by
 constructor <;> (rw [bN]; omega)
theorem yr {w : World} {y : Nat → Option Bool} {o : Oper} {a : Act} {Q : Exit → Act → World → Prop} {K : Act → World → Prop} {k0 : Prop} (hgd : Region.wanted o y = true) (t : TypeId) (x z : Operand) (ho : o.op = .store t x z)
  (p : Nat) (hx : a.eval x = .pointer (some ⟨p, 0, none⟩)) (cs ds : List Value) (hy : a.eval z = .agg ds.toArray) (T : TypeId) (h : VA w p cs T) (hi : (prog.info? t).map (·.size) = some ds.length) (hl : cs.length = ds.length) (h1 : ∀ v ∈ ds, v.oneCell' = true)
  (k : ∀ w', VA w' p ds T → Upd p w w' → K (a.put o.dst undef) w') : if Region.wanted o y = true then o.wp prog a w K Q else k0 := by
 rw [if_pos hgd]
 have hrun := run_storeVar_row (P := prog) w p T t cs.toArray ds.toArray h.blk (by simpa using hi) (by simpa using hl) (Array.all_eq_true_iff_forall_mem.2 (fun v hv => h1 v (by simpa using hv)))
 unfold Oper.wp execOp
 simp only [ho, hx, hy, Instr.storeAt, Instr.sureAddr, Sem.run_bind, Sem.run_pure, Result.andThen_ok, hrun]
 exact k _ ⟨setRow_heap w p _ _ _ _ h.blk⟩ (cK w p _)
end Go.Proofs.YtjkiplndbcmmbaaGreatDoor
namespace Go.Proofs.YtjkiplndbcmmbaaGreatDoor
open Go.RowKit
attribute [local go_sem] ap ai ar af ae ag aD av ax ay aN aO aP aQ aR
theorem cC (c : Int) : cut0 c 0 = c := by
 unfold cut0
 rw [Nat.pow_zero, Nat.div_one, iu]
end Go.Proofs.YtjkiplndbcmmbaaGreatDoor
namespace Go.Proofs.YtjkiplndbcmmbaaGreatDoor
open Tryz
open Go.RowKit
attribute [local go_sem] ap ai ar af ae ag aD av ax ay aN aO aP aQ aR
def dcs (c : Int) (s : Nat) : List Value := [.int .i64 (dhi c), .int .u64 (dlo c), .int .i64 s]
theorem bI (c : Int) (s : Nat) : ∀ v ∈ dcs c s, v.oneCell' = true := by intro v hv; simp [dcs] at hv; rcases hv with rfl | rfl | rfl <;> rfl
theorem dW {w : World} {y : Nat → Option Bool} {o : Oper} {a : Act} {Q : Exit → Act → World → Prop} {K : Act → World → Prop} {k0 : Prop} (hgd : Region.wanted o y = true) (hd : o.dst = none) (t : TypeId) (x z : Operand) (ho : o.op = .store t x z)
  (p : Nat) (hx : a.eval x = .pointer (some ⟨p, 0, none⟩)) (cs ds : List Value) (hy : a.eval z = .agg ds.toArray) (T : TypeId) (h : VA w p cs T) (hi : (prog.info? t).map (·.size) = some ds.length) (hl : cs.length = ds.length) (h1 : ∀ v ∈ ds, v.oneCell' = true)
  (k : ∀ w', VA w' p ds T → Upd p w w' → K a w') : if Region.wanted o y = true then o.wp prog a w K Q else k0 := by
 refine yr hgd t x z ho p hx cs ds hy T h hi hl h1 (fun w' v u => ?_)
 rw [hd]
 exact k w' v u
theorem wP (i : Nat) (n : Int) (w : World) (T : Cu w) (hi : i < 4) (hn : -10000000000000 ≤ n ∧ n ≤ 10000000000000) :
  Calls prog 159 #[.agg (mcl i n).toArray] w fun e w' => e = .returned (.tuple #[.agg (dcs n (cdg i)).toArray, .int .i64 0]) ∧ Below w.heap.size w w' := by
 have hm : mform i n = true := by unfold mform; rw [br (by omega) (by omega), br hn.1 hn.2]; rfl
 have VM_0 : Hid _ := (aa w (mcl i n) 195).alloc (.cells zdl.toArray 44)
 have VR_0 : Hid _ := aa (w.alloc (.cells (mcl i n).toArray 195)) zdl 44
 rw [show (w.alloc (.cells (mcl i n).toArray 195)).heap.size = w.heap.size + 1 by simp] at VR_0
 have BB_0 : Hid _ := ((Below.refl w.heap.size w).alloc (Nat.le_refl _) (.cells (mcl i n).toArray 195)).alloc (by simp) (.cells zdl.toArray 44)
 have CU_0 : Hid _ := (T.alloc (.cells (mcl i n).toArray 195)).alloc (.cells zdl.toArray 44)
 have HP : Hid (0 < w.heap.size) := T.lt
 have HN : Hid _ := hn
 have HD : Hid ((cdg i : Int) ≤ 18) := (by have := dw i; omega : (cdg i : Int) ≤ 18)
 clear T hn
 go_enter func159, ntmps159
 go_wp2_with (refine ldA rfl 195 _ rfl w.heap.size (by rfl) (mcl i n) _ VM_0.out _ underlying195 rfl bR ?_)
 refine (fP i n _).mono ?_
 rintro e w1 ⟨rfl, b1⟩
 have VM_1 : Hid _ := VM_0.out.step b1
 have VR_1 : Hid _ := VR_0.out.step b1
 have CU_1 : Hid _ := CU_0.out.step b1
 have BB_1 : Hid _ := BB_0.out.trans (b1.mono BB_0.out.size)
 clear b1 VM_0 VR_0 CU_0 BB_0
 rw [hm]
 clear hm
 go_upto_region 4 with fail
 refine wp_region_noPanic ?_
 refine wp_region_held_drew (S := fun w' => VA w' w.heap.size (mcl i n) 195 ∧ Cu w') (by kernel_rfl) ⟨VM_1.out.drew, CU_1.out.drew⟩ (fun hh_ => ?_)
 refine tL 0 11 (.pointer (some ⟨w.heap.size, 1, none⟩)) ?_ ?_
 ·intro wq hS
  go_simp
 try simp only [nrm]
 refine tL 1 12 (.int .i64 n) ?_ ?_
 ·intro wq hS
  have h1 := hS.1.cell 1 (v := .int .i64 n) rfl
  go_simp
 try simp only [nrm]
 refine tL 2 13 (.pointer (some ⟨w.heap.size, 0, none⟩)) ?_ ?_
 ·intro wq hS
  go_simp
 try simp only [nrm]
 refine tL 3 14 (.int .i64 (i : Int)) ?_ ?_
 ·intro wq hS
  have h1 := hS.1.cell 0 (v := .int .i64 (i : Int)) rfl
  go_simp
 try simp only [nrm]
 refine tL 4 15 (.pointer (some ⟨0, i * 2, none⟩)) ?_ ?_
 ·intro wq hS
  go_simp
  intro h; omega
 try simp only [nrm]
 refine tL 5 16 (.pointer (some ⟨0, i * 2 + 1, none⟩)) ?_ ?_
 ·intro wq hS
  go_simp
 try simp only [nrm]
 refine tL 6 17 (.int .i64 (cdg i : Int)) ?_ ?_
 ·intro wq hS
  have h1 := hS.2.row i hi
  go_simp
 try simp only [nrm]
 have VM_z : Hid _ := VM_1.out.drew
 have VR_z : Hid _ := VR_1.out.drew
 have CU_z : Hid _ := CU_1.out.drew
 have BB_z : Hid _ := BB_1.out.drew
 clear VM_1 VR_1 CU_1 BB_1 hh_
 generalize w1.drew = wz at *
 refine rdy 7 (fun K hK => ?_)
 go_simp
 refine (uK n (cdg i) _ (by have := HN.out; omega) (by have := HN.out; omega) HD.out).mono ?_
 rintro e w2 ⟨rfl, b2⟩
 have VM_2 : Hid _ := VM_z.out.step b2
 have VR_2 : Hid _ := VR_z.out.step b2
 have CU_2 : Hid _ := CU_z.out.step b2
 have BB_2 : Hid _ := BB_z.out.trans (b2.mono BB_z.out.size)
 clear b2
 go_wp2_with fail
 refine hK.out _ _ (⟨VM_2.out, CU_2.out⟩) (fun hh_ => ?_)
 try simp only [nrm]
 clear hK K
 refine tL 8 19 (.agg (dcs n (cdg i)).toArray) ?_ ?_
 ·intro wq hS
  go_simp
  rfl
 try simp only [nrm]
 refine tL 9 20 (.int .i64 0) ?_ ?_
 ·intro wq hS
  go_simp
 try simp only [nrm]
 clear hh_
 refine rdy 10 (fun K hK => ?_)
 refine dW (by rfl) (by rfl) 44 _ _ (by rfl) (w.heap.size + 1) (by rfl) zdl (dcs n (cdg i)) (by rfl) 44 VR_2.out aU rfl (bI _ _) ?_
 intro w9 v9 u9
 refine hK.out _ _ ⟨VM_2.out.upd u9 (by omega), CU_2.out.upd u9 (by omega)⟩ (fun hh_ => ?_)
 clear hK K
 refine tL 11 3 (.int .i64 0) ?_ ?_
 ·intro wq hS
  go_simp
 try simp only [nrm]
 clear hh_
 refine dN ?_
 have hld := run_loadVar_row (P := prog) w9 (w.heap.size + 1) 44 44 _ (0, 0) _ v9.blk underlying44 rfl aU
 go_wp2_with fail
 exact bodyPost_ret (v := .tuple #[.agg (dcs n (cdg i)).toArray, .int .i64 0]) (by simp [results, results159, asAddr, hld]) rfl ⟨rfl, u9.bel BB_2.out (by omega)⟩
theorem fw (q : Int) (w : World) (iq : InR q) (h0 : -9223372036854775808 ≤ q) (h1 : q ≤ 9223372036854775807) :
  Calls prog 15 #[.agg (dcs q 0).toArray] w fun e w' => e = .returned (.tuple #[.int .i64 q, .int .i64 0]) ∧ Below w.heap.size w w' := by
 have h := mU q 0 w iq (by decide) (by rw [cC, nz]) (by rw [cC]; omega) (by rw [cC]; exact h1)
 rw [cC] at h
 exact h
theorem kx (q : Int) (w : World) (iq : InR q) (h : ¬ (-9223372036854775808 ≤ q ∧ q ≤ 9223372036854775807)) :
  Calls prog 15 #[.agg (dcs q 0).toArray] w fun e w' => e = .returned (.tuple #[.int .i64 0, .int .i64 4]) ∧ Below w.heap.size w w' :=
 t8 q 0 w iq (by decide) (by rw [cC, nz]) (by rw [cC]; omega)
theorem mE (c : Int) (s i mode : Nat) (R : Int) (w : World) (T : Cu w) (ic : InR c) (hs : (s : Int) ≤ 18) (hi : i < 4) (hm : (mode : Int) ≤ 6) (hR : R = rv c s (cdg i) mode) (iR : InR R) (hr : -10000000000000 ≤ R ∧ R ≤ 10000000000000) :
  Calls prog 128 #[.agg (dcs c s).toArray, .int .i64 i, .int .i64 mode] w fun e w' => e = .returned (.tuple #[.agg (mcl i R).toArray, .int .i64 0]) ∧ Below w.heap.size w w' := by
 have hd18 : (cdg i : Int) ≤ 18 := by have := dw i; omega
 have RS : ∀ w, InR c → (s : Int) ≤ 18 → (cdg i : Int) ≤ 18 → (mode : Int) ≤ 6 → InR R → Calls prog 35 #[.agg #[.int .i64 (dhi c), .int .u64 (dlo c), .int .i64 s], .int .i64 (cdg i), .int .i64 mode] w fun e w' => e = .returned (.tuple #[.agg #[.int .i64 (dhi R), .int .u64 (dlo R), .int .i64 (cdg i)], .int .i64 0]) ∧ Below w.heap.size w w' := by
  intro w h1 h2 h3 h4 h5
  rw [hR] at h5 ⊢
  exact cp c s (cdg i) mode w h1 h2 h3 h4 h5
 have HRS : Hid _ := RS
 have IC : Hid (InR c) := ic
 have HS : Hid _ := hs
 have HD : Hid _ := hd18
 have HM : Hid _ := hm
 have IR : Hid (InR R) := iR
 have HR0 : Hid _ := hr
 have HWI : Hid (wi R (-10000000000000) 10000000000000 = true) := br hr.1 hr.2
 clear hr
 have VD_0 : Hid _ := (aa w (dcs c s) 44).alloc (.cells (mcl 0 0).toArray 195)
 have VR_0 : Hid _ := aa (w.alloc (.cells (dcs c s).toArray 44)) (mcl 0 0) 195
 rw [show (w.alloc (.cells (dcs c s).toArray 44)).heap.size = w.heap.size + 1 by simp] at VR_0
 have BB_0 : Hid _ := ((Below.refl w.heap.size w).alloc (Nat.le_refl _) (.cells (dcs c s).toArray 44)).alloc (by simp) (.cells (mcl 0 0).toArray 195)
 have CU_0 : Hid _ := (T.alloc (.cells (dcs c s).toArray 44)).alloc (.cells (mcl 0 0).toArray 195)
 have hp : 0 < w.heap.size := T.lt
 have hw := br (n := (i : Int)) (l := 0) (g := 3) (by omega) (by omega)
 clear T RS ic hs hd18 hm iR hR
 go_enter func128, ntmps128
 go_wp2_with fail
 refine (cT i _).mono ?_
 rintro e w1 ⟨rfl, hq⟩
 obtain rfl := hq.symm
 rw [hw]
 clear hw
 go_upto_region 3 with fail
 change Code.wp _ _ _ _ (w.alloc (.cells (dcs c s).toArray 44) |>.alloc (.cells (mcl 0 0).toArray 195))
 generalize (w.alloc (.cells (dcs c s).toArray 44) |>.alloc (.cells (mcl 0 0).toArray 195)) = W at *
 refine wp_region_noPanic ?_
 refine wp_region_held_drew (S := fun w' => VA w' w.heap.size (dcs c s) 44 ∧ Cu w') (by kernel_rfl) ⟨VD_0.out.drew, CU_0.out.drew⟩ (fun hh_ => ?_)
 refine tL 0 16 (.agg #[.int .i64 (dhi c), .int .u64 (dlo c), .int .i64 s]) ?_ ?_
 ·intro wq hS
  have h0 := hS.1.cell 0 (v := .int .i64 (dhi c)) rfl
  have h1 := hS.1.cell 1 (v := .int .u64 (dlo c)) rfl
  have h2 := hS.1.cell 2 (v := .int .i64 s) rfl
  go_simp
 try simp only [nrm]
 refine tL 1 17 (.int .i64 (i : Int)) ?_ ?_
 ·intro wq hS
  go_simp
 try simp only [nrm]
 refine tL 2 18 (.pointer (some ⟨0, i * 2, none⟩)) ?_ ?_
 ·intro wq hS
  go_simp
  intro h; omega
 try simp only [nrm]
 refine tL 3 19 (.pointer (some ⟨0, i * 2 + 1, none⟩)) ?_ ?_
 ·intro wq hS
  go_simp
 try simp only [nrm]
 refine tL 4 20 (.int .i64 (cdg i : Int)) ?_ ?_
 ·intro wq hS
  have h1 := hS.2.row i hi
  go_simp
 try simp only [nrm]
 refine tL 5 21 (.int .i64 (mode : Int)) ?_ ?_
 ·intro wq hS
  go_simp
 try simp only [nrm]
 clear hh_
 have VD_z : Hid _ := VD_0.out.drew
 have VR_z : Hid _ := VR_0.out.drew
 have CU_z : Hid _ := CU_0.out.drew
 have BB_z : Hid _ := BB_0.out.drew
 clear VD_0 VR_0 CU_0 BB_0
 generalize W.drew = wz at *
 refine wpAnyH_ready (rs := [6, 10]) (by kernel_rfl) (by simp) ?_
 refine AllReadyH.cons (by exact rfl) (fun K hK => ?_) (AllReadyH.cons (by exact rfl) (fun K hK => ?_) AllReadyH.nil)
 ·go_simp
  refine (HRS.out _ IC.out HS.out HD.out HM.out IR.out).mono ?_
  rintro e w1 ⟨rfl, b1⟩
  have VD_1 : Hid _ := VD_z.out.step b1
  have VR_1 : Hid _ := VR_z.out.step b1
  have CU_1 : Hid _ := CU_z.out.step b1
  have BB_1 : Hid _ := BB_z.out.trans (b1.mono BB_z.out.size)
  clear b1
  go_wp2_with fail
  refine hK.out _ _ (⟨VD_1.out, CU_1.out⟩) (fun hh_ => ?_)
  try simp only [nrm]
  clear hK K VD_z VR_z CU_z BB_z
  refine tL 7 15 (.tuple #[.agg #[.int .i64 (dhi R), .int .u64 (dlo R), .int .i64 (cdg i)], .int .i64 0]) ?_ ?_
  ·intro wq hS
   go_simp
  try simp only [nrm]
  refine tL 8 23 (.agg (dcs R (cdg i)).toArray) ?_ ?_
  ·intro wq hS
   go_simp
   rfl
  try simp only [nrm]
  refine tL 9 24 (.int .i64 0) ?_ ?_
  ·intro wq hS
   go_simp
  try simp only [nrm]
  clear hh_
  refine rdy 10 (fun K hK => ?_)
  go_simp
  have VD_2 : Hid _ := VD_1.out.alloc (.cells zdl.toArray 44)
  have VR_2 : Hid _ := VR_1.out.alloc (.cells zdl.toArray 44)
  have CU_2 : Hid _ := CU_1.out.alloc (.cells zdl.toArray 44)
  have BB_2 : Hid _ := BB_1.out.alloc BB_1.out.size (.cells zdl.toArray 44)
  have XV_2 : Hid _ := aa w1 zdl 44
  have HQ : Hid (w.heap.size + 1 < w1.heap.size) := VR_1.out.lt
  refine hK.out _ _ ⟨VD_2.out, CU_2.out⟩ (fun hh_ => ?_)
  try simp only [nrm]
  clear hK K hh_ VD_1 VR_1 CU_1 BB_1
  change wpAnyH _ _ _ _ _ _ _ _ (w1.alloc (.cells zdl.toArray 44))
  generalize w1.alloc (.cells zdl.toArray 44) = w2 at *
  generalize w1.heap.size = q at *
  refine rdy 11 (fun K hK => ?_)
  refine dW (by rfl) (by rfl) 44 _ _ (by rfl) q (by rfl) zdl (dcs R (cdg i)) (by rfl) 44 XV_2.out aU rfl (bI _ _) ?_
  intro w9 v9 u9
  have VD_9 : Hid _ := VD_2.out.upd u9 (by have := HQ.out; omega)
  have CU_9 : Hid _ := CU_2.out.upd u9 (by have := HQ.out; omega)
  refine hK.out _ _ ⟨VD_9.out, CU_9.out⟩ (fun hh_ => ?_)
  clear hK K
  refine tL 12 9 (.int .i64 0) ?_ ?_
  ·intro wq hS
   go_simp
  try simp only [nrm]
  clear hh_
  refine dN ?_
  have XV_9 : Hid _ := v9
  have VR_9 : Hid _ := VR_2.out.upd u9 (by have := HQ.out; omega)
  have BB_9 : Hid _ := u9.bel BB_2.out (by have := HQ.out; omega)
  clear v9 u9 VD_2 CU_2 VR_2 BB_2 XV_2 VD_9 CU_9
  have x2 := XV_9.out.cell 2 (v := .int .i64 (cdg i : Int)) rfl
  have f2 := XV_9.out.free 2
  go_upto_region 7 with fail
  clear x2 f2
  have X : Hid (VA (w9.setCell ⟨q, 2, none⟩ (.int .i64 0)) q (dcs R 0) 44) := XV_9.out.set 2 (.int .i64 0)
  have VRA : Hid _ := VR_9.out.set_other (q := q) (by have := HQ.out; omega) 2 (.int .i64 0)
  have BBA : Hid _ := BB_9.out.setCell (p := ⟨q, 2, none⟩) (by have := HQ.out; show _ ≤ q; omega) (.int .i64 0)
  clear XV_9 VR_9 BB_9
  generalize w9.setCell ⟨q, 2, none⟩ (.int .i64 0) = wa at *
  go_wp2_with (refine ldA rfl 44 _ rfl q (by rfl) (dcs R 0) _ X.out _ underlying44 rfl aU ?_)
  refine (fw R _ IR.out (by have := HR0.out; omega) (by have := HR0.out; omega)).mono ?_
  rintro e wb ⟨rfl, bb⟩
  have VRB : Hid _ := VRA.out.step bb
  have BBB : Hid _ := BBA.out.trans (bb.mono BBA.out.size)
  clear bb VRA BBA X
  go_wp2_with fail
  refine (gD (i : Int) R _ HWI.out).mono ?_
  rintro e wc ⟨rfl, bc⟩
  have VRX : Hid _ := VRB.out.step bc
  have BBX : Hid _ := BBB.out.trans (bc.mono BBB.out.size)
  clear bc VRB BBB
  go_wp2_with (refine stA rfl 195 _ _ rfl (w.heap.size + 1) (by rfl) (mcl 0 0) (mcl i R) (by rfl) 195 VRX.out bR rfl (cS _ _) ?_; intro wf vf uf)
  have hld := run_loadVar_row (P := prog) wf (w.heap.size + 1) 195 195 _ (0, 0) _ vf.blk underlying195 rfl bR
  exact bodyPost_ret (v := .tuple #[.agg (mcl i R).toArray, .int .i64 0]) (by simp [results, results128, asAddr, hld]) rfl ⟨rfl, uf.bel BBX.out (by omega)⟩
 ·go_simp
  have VD_1 : Hid _ := VD_z.out.alloc (.cells zdl.toArray 44)
  have VR_1 : Hid _ := VR_z.out.alloc (.cells zdl.toArray 44)
  have CU_1 : Hid _ := CU_z.out.alloc (.cells zdl.toArray 44)
  have BB_1 : Hid _ := BB_z.out.alloc BB_z.out.size (.cells zdl.toArray 44)
  have XV_1 : Hid _ := aa wz zdl 44
  have HQ : Hid (w.heap.size + 1 < wz.heap.size) := VR_z.out.lt
  refine hK.out _ _ ⟨VD_1.out, CU_1.out⟩ (fun hh_ => ?_)
  try simp only [nrm]
  clear hK K hh_ VD_z VR_z CU_z BB_z
  change wpAnyH _ _ _ _ _ _ _ _ (wz.alloc (.cells zdl.toArray 44))
  generalize wz.alloc (.cells zdl.toArray 44) = w1 at *
  generalize wz.heap.size = q at *
  refine rdy 6 (fun K hK => ?_)
  go_simp
  refine (HRS.out _ IC.out HS.out HD.out HM.out IR.out).mono ?_
  rintro e w2 ⟨rfl, b2⟩
  have VD_2 : Hid _ := VD_1.out.step b2
  have VR_2 : Hid _ := VR_1.out.step b2
  have CU_2 : Hid _ := CU_1.out.step b2
  have XV_2 : Hid _ := XV_1.out.step b2
  have BB_2 : Hid _ := BB_1.out.trans (b2.mono BB_1.out.size)
  clear b2
  go_wp2_with fail
  refine hK.out _ _ (⟨VD_2.out, CU_2.out⟩) (fun hh_ => ?_)
  try simp only [nrm]
  clear hK K VD_1 VR_1 CU_1 BB_1 XV_1
  refine tL 7 15 (.tuple #[.agg #[.int .i64 (dhi R), .int .u64 (dlo R), .int .i64 (cdg i)], .int .i64 0]) ?_ ?_
  ·intro wq hS
   go_simp
  try simp only [nrm]
  refine tL 8 23 (.agg (dcs R (cdg i)).toArray) ?_ ?_
  ·intro wq hS
   go_simp
   rfl
  try simp only [nrm]
  refine tL 9 24 (.int .i64 0) ?_ ?_
  ·intro wq hS
   go_simp
  try simp only [nrm]
  clear hh_
  refine rdy 11 (fun K hK => ?_)
  refine dW (by rfl) (by rfl) 44 _ _ (by rfl) q (by rfl) zdl (dcs R (cdg i)) (by rfl) 44 XV_2.out aU rfl (bI _ _) ?_
  intro w9 v9 u9
  have VD_9 : Hid _ := VD_2.out.upd u9 (by have := HQ.out; omega)
  have CU_9 : Hid _ := CU_2.out.upd u9 (by have := HQ.out; omega)
  refine hK.out _ _ ⟨VD_9.out, CU_9.out⟩ (fun hh_ => ?_)
  clear hK K
  refine tL 12 9 (.int .i64 0) ?_ ?_
  ·intro wq hS
   go_simp
  try simp only [nrm]
  clear hh_
  refine dN ?_
  have XV_9 : Hid _ := v9
  have VR_9 : Hid _ := VR_2.out.upd u9 (by have := HQ.out; omega)
  have BB_9 : Hid _ := u9.bel BB_2.out (by have := HQ.out; omega)
  clear v9 u9 VD_2 CU_2 VR_2 BB_2 XV_2 VD_9 CU_9
  have x2 := XV_9.out.cell 2 (v := .int .i64 (cdg i : Int)) rfl
  have f2 := XV_9.out.free 2
  go_upto_region 7 with fail
  clear x2 f2
  have X : Hid (VA (w9.setCell ⟨q, 2, none⟩ (.int .i64 0)) q (dcs R 0) 44) := XV_9.out.set 2 (.int .i64 0)
  have VRA : Hid _ := VR_9.out.set_other (q := q) (by have := HQ.out; omega) 2 (.int .i64 0)
  have BBA : Hid _ := BB_9.out.setCell (p := ⟨q, 2, none⟩) (by have := HQ.out; show _ ≤ q; omega) (.int .i64 0)
  clear XV_9 VR_9 BB_9
  generalize w9.setCell ⟨q, 2, none⟩ (.int .i64 0) = wa at *
  go_wp2_with (refine ldA rfl 44 _ rfl q (by rfl) (dcs R 0) _ X.out _ underlying44 rfl aU ?_)
  refine (fw R _ IR.out (by have := HR0.out; omega) (by have := HR0.out; omega)).mono ?_
  rintro e wb ⟨rfl, bb⟩
  have VRB : Hid _ := VRA.out.step bb
  have BBB : Hid _ := BBA.out.trans (bb.mono BBA.out.size)
  clear bb VRA BBA X
  go_wp2_with fail
  refine (gD (i : Int) R _ HWI.out).mono ?_
  rintro e wc ⟨rfl, bc⟩
  have VRX : Hid _ := VRB.out.step bc
  have BBX : Hid _ := BBB.out.trans (bc.mono BBB.out.size)
  clear bc VRB BBB
  go_wp2_with (refine stA rfl 195 _ _ rfl (w.heap.size + 1) (by rfl) (mcl 0 0) (mcl i R) (by rfl) 195 VRX.out bR rfl (cS _ _) ?_; intro wf vf uf)
  have hld := run_loadVar_row (P := prog) wf (w.heap.size + 1) 195 195 _ (0, 0) _ vf.blk underlying195 rfl bR
  exact bodyPost_ret (v := .tuple #[.agg (mcl i R).toArray, .int .i64 0]) (by simp [results, results128, asAddr, hld]) rfl ⟨rfl, uf.bel BBX.out (by omega)⟩
theorem sk (c : Int) (s i mode : Nat) (R : Int) (w : World) (T : Cu w) (ic : InR c) (hs : (s : Int) ≤ 18) (hi : i < 4) (hm : (mode : Int) ≤ 6) (hR : R = rv c s (cdg i) mode) (iR : InR R) (hr : ¬ (-10000000000000 ≤ R ∧ R ≤ 10000000000000)) (h64 : -9223372036854775808 ≤ R ∧ R ≤ 9223372036854775807) :
  Calls prog 128 #[.agg (dcs c s).toArray, .int .i64 i, .int .i64 mode] w fun e w' => e = .returned (.tuple #[.agg (mcl 0 0).toArray, .int .i64 4]) ∧ Below w.heap.size w w' := by
 have hd18 : (cdg i : Int) ≤ 18 := by have := dw i; omega
 have RS : ∀ w, InR c → (s : Int) ≤ 18 → (cdg i : Int) ≤ 18 → (mode : Int) ≤ 6 → InR R → Calls prog 35 #[.agg #[.int .i64 (dhi c), .int .u64 (dlo c), .int .i64 s], .int .i64 (cdg i), .int .i64 mode] w fun e w' => e = .returned (.tuple #[.agg #[.int .i64 (dhi R), .int .u64 (dlo R), .int .i64 (cdg i)], .int .i64 0]) ∧ Below w.heap.size w w' := by
  intro w h1 h2 h3 h4 h5
  rw [hR] at h5 ⊢
  exact cp c s (cdg i) mode w h1 h2 h3 h4 h5
 have HRS : Hid _ := RS
 have IC : Hid (InR c) := ic
 have HS : Hid _ := hs
 have HD : Hid _ := hd18
 have HM : Hid _ := hm
 have IR : Hid (InR R) := iR
 have HR0 : Hid _ := h64
 have HWI : Hid (wi R (-10000000000000) 10000000000000 = false) := jb hr
 clear hr h64
 have VD_0 : Hid _ := (aa w (dcs c s) 44).alloc (.cells (mcl 0 0).toArray 195)
 have VR_0 : Hid _ := aa (w.alloc (.cells (dcs c s).toArray 44)) (mcl 0 0) 195
 rw [show (w.alloc (.cells (dcs c s).toArray 44)).heap.size = w.heap.size + 1 by simp] at VR_0
 have BB_0 : Hid _ := ((Below.refl w.heap.size w).alloc (Nat.le_refl _) (.cells (dcs c s).toArray 44)).alloc (by simp) (.cells (mcl 0 0).toArray 195)
 have CU_0 : Hid _ := (T.alloc (.cells (dcs c s).toArray 44)).alloc (.cells (mcl 0 0).toArray 195)
 have hp : 0 < w.heap.size := T.lt
 have hw := br (n := (i : Int)) (l := 0) (g := 3) (by omega) (by omega)
 clear T RS ic hs hd18 hm iR hR
 go_enter func128, ntmps128
 go_wp2_with fail
 refine (cT i _).mono ?_
 rintro e w1 ⟨rfl, hq⟩
 obtain rfl := hq.symm
 rw [hw]
 clear hw
 go_upto_region 3 with fail
 change Code.wp _ _ _ _ (w.alloc (.cells (dcs c s).toArray 44) |>.alloc (.cells (mcl 0 0).toArray 195))
 generalize (w.alloc (.cells (dcs c s).toArray 44) |>.alloc (.cells (mcl 0 0).toArray 195)) = W at *
 refine wp_region_noPanic ?_
 refine wp_region_held_drew (S := fun w' => VA w' w.heap.size (dcs c s) 44 ∧ Cu w') (by kernel_rfl) ⟨VD_0.out.drew, CU_0.out.drew⟩ (fun hh_ => ?_)
 refine tL 0 16 (.agg #[.int .i64 (dhi c), .int .u64 (dlo c), .int .i64 s]) ?_ ?_
 ·intro wq hS
  have h0 := hS.1.cell 0 (v := .int .i64 (dhi c)) rfl
  have h1 := hS.1.cell 1 (v := .int .u64 (dlo c)) rfl
  have h2 := hS.1.cell 2 (v := .int .i64 s) rfl
  go_simp
 try simp only [nrm]
 refine tL 1 17 (.int .i64 (i : Int)) ?_ ?_
 ·intro wq hS
  go_simp
 try simp only [nrm]
 refine tL 2 18 (.pointer (some ⟨0, i * 2, none⟩)) ?_ ?_
 ·intro wq hS
  go_simp
  intro h; omega
 try simp only [nrm]
 refine tL 3 19 (.pointer (some ⟨0, i * 2 + 1, none⟩)) ?_ ?_
 ·intro wq hS
  go_simp
 try simp only [nrm]
 refine tL 4 20 (.int .i64 (cdg i : Int)) ?_ ?_
 ·intro wq hS
  have h1 := hS.2.row i hi
  go_simp
 try simp only [nrm]
 refine tL 5 21 (.int .i64 (mode : Int)) ?_ ?_
 ·intro wq hS
  go_simp
 try simp only [nrm]
 clear hh_
 have VD_z : Hid _ := VD_0.out.drew
 have VR_z : Hid _ := VR_0.out.drew
 have CU_z : Hid _ := CU_0.out.drew
 have BB_z : Hid _ := BB_0.out.drew
 clear VD_0 VR_0 CU_0 BB_0
 generalize W.drew = wz at *
 refine wpAnyH_ready (rs := [6, 10]) (by kernel_rfl) (by simp) ?_
 refine AllReadyH.cons (by exact rfl) (fun K hK => ?_) (AllReadyH.cons (by exact rfl) (fun K hK => ?_) AllReadyH.nil)
 ·go_simp
  refine (HRS.out _ IC.out HS.out HD.out HM.out IR.out).mono ?_
  rintro e w1 ⟨rfl, b1⟩
  have VD_1 : Hid _ := VD_z.out.step b1
  have VR_1 : Hid _ := VR_z.out.step b1
  have CU_1 : Hid _ := CU_z.out.step b1
  have BB_1 : Hid _ := BB_z.out.trans (b1.mono BB_z.out.size)
  clear b1
  go_wp2_with fail
  refine hK.out _ _ (⟨VD_1.out, CU_1.out⟩) (fun hh_ => ?_)
  try simp only [nrm]
  clear hK K VD_z VR_z CU_z BB_z
  refine tL 7 15 (.tuple #[.agg #[.int .i64 (dhi R), .int .u64 (dlo R), .int .i64 (cdg i)], .int .i64 0]) ?_ ?_
  ·intro wq hS
   go_simp
  try simp only [nrm]
  refine tL 8 23 (.agg (dcs R (cdg i)).toArray) ?_ ?_
  ·intro wq hS
   go_simp
   rfl
  try simp only [nrm]
  refine tL 9 24 (.int .i64 0) ?_ ?_
  ·intro wq hS
   go_simp
  try simp only [nrm]
  clear hh_
  refine rdy 10 (fun K hK => ?_)
  go_simp
  have VD_2 : Hid _ := VD_1.out.alloc (.cells zdl.toArray 44)
  have VR_2 : Hid _ := VR_1.out.alloc (.cells zdl.toArray 44)
  have CU_2 : Hid _ := CU_1.out.alloc (.cells zdl.toArray 44)
  have BB_2 : Hid _ := BB_1.out.alloc BB_1.out.size (.cells zdl.toArray 44)
  have XV_2 : Hid _ := aa w1 zdl 44
  have HQ : Hid (w.heap.size + 1 < w1.heap.size) := VR_1.out.lt
  refine hK.out _ _ ⟨VD_2.out, CU_2.out⟩ (fun hh_ => ?_)
  try simp only [nrm]
  clear hK K hh_ VD_1 VR_1 CU_1 BB_1
  change wpAnyH _ _ _ _ _ _ _ _ (w1.alloc (.cells zdl.toArray 44))
  generalize w1.alloc (.cells zdl.toArray 44) = w2 at *
  generalize w1.heap.size = q at *
  refine rdy 11 (fun K hK => ?_)
  refine dW (by rfl) (by rfl) 44 _ _ (by rfl) q (by rfl) zdl (dcs R (cdg i)) (by rfl) 44 XV_2.out aU rfl (bI _ _) ?_
  intro w9 v9 u9
  have VD_9 : Hid _ := VD_2.out.upd u9 (by have := HQ.out; omega)
  have CU_9 : Hid _ := CU_2.out.upd u9 (by have := HQ.out; omega)
  refine hK.out _ _ ⟨VD_9.out, CU_9.out⟩ (fun hh_ => ?_)
  clear hK K
  refine tL 12 9 (.int .i64 0) ?_ ?_
  ·intro wq hS
   go_simp
  try simp only [nrm]
  clear hh_
  refine dN ?_
  have XV_9 : Hid _ := v9
  have VR_9 : Hid _ := VR_2.out.upd u9 (by have := HQ.out; omega)
  have BB_9 : Hid _ := u9.bel BB_2.out (by have := HQ.out; omega)
  clear v9 u9 VD_2 CU_2 VR_2 BB_2 XV_2 VD_9 CU_9
  have x2 := XV_9.out.cell 2 (v := .int .i64 (cdg i : Int)) rfl
  have f2 := XV_9.out.free 2
  go_upto_region 7 with fail
  clear x2 f2
  have X : Hid (VA (w9.setCell ⟨q, 2, none⟩ (.int .i64 0)) q (dcs R 0) 44) := XV_9.out.set 2 (.int .i64 0)
  have VRA : Hid _ := VR_9.out.set_other (q := q) (by have := HQ.out; omega) 2 (.int .i64 0)
  have BBA : Hid _ := BB_9.out.setCell (p := ⟨q, 2, none⟩) (by have := HQ.out; show _ ≤ q; omega) (.int .i64 0)
  clear XV_9 VR_9 BB_9
  generalize w9.setCell ⟨q, 2, none⟩ (.int .i64 0) = wa at *
  go_wp2_with (refine ldA rfl 44 _ rfl q (by rfl) (dcs R 0) _ X.out _ underlying44 rfl aU ?_)
  refine (fw R _ IR.out (by have := HR0.out; omega) (by have := HR0.out; omega)).mono ?_
  rintro e wb ⟨rfl, bb⟩
  have VRB : Hid _ := VRA.out.step bb
  have BBB : Hid _ := BBA.out.trans (bb.mono BBA.out.size)
  clear bb VRA BBA X
  go_wp2_with fail
  refine (iJ (i : Int) R _ HWI.out).mono ?_
  rintro e wc ⟨rfl, bc⟩
  have VRX : Hid _ := VRB.out.step bc
  have BBX : Hid _ := BBB.out.trans (bc.mono BBB.out.size)
  clear bc VRB BBB
  go_wp2_with (refine stA rfl 195 _ _ rfl (w.heap.size + 1) (by rfl) (mcl 0 0) (mcl 0 0) (by rfl) 195 VRX.out bR rfl (cS _ _) ?_; intro wf vf uf)
  have hld := run_loadVar_row (P := prog) wf (w.heap.size + 1) 195 195 _ (0, 0) _ vf.blk underlying195 rfl bR
  exact bodyPost_ret (v := .tuple #[.agg (mcl 0 0).toArray, .int .i64 4]) (by simp [results, results128, asAddr, hld]) rfl ⟨rfl, uf.bel BBX.out (by omega)⟩
 ·go_simp
  have VD_1 : Hid _ := VD_z.out.alloc (.cells zdl.toArray 44)
  have VR_1 : Hid _ := VR_z.out.alloc (.cells zdl.toArray 44)
  have CU_1 : Hid _ := CU_z.out.alloc (.cells zdl.toArray 44)
  have BB_1 : Hid _ := BB_z.out.alloc BB_z.out.size (.cells zdl.toArray 44)
  have XV_1 : Hid _ := aa wz zdl 44
  have HQ : Hid (w.heap.size + 1 < wz.heap.size) := VR_z.out.lt
  refine hK.out _ _ ⟨VD_1.out, CU_1.out⟩ (fun hh_ => ?_)
  try simp only [nrm]
  clear hK K hh_ VD_z VR_z CU_z BB_z
  change wpAnyH _ _ _ _ _ _ _ _ (wz.alloc (.cells zdl.toArray 44))
  generalize wz.alloc (.cells zdl.toArray 44) = w1 at *
  generalize wz.heap.size = q at *
  refine rdy 6 (fun K hK => ?_)
  go_simp
  refine (HRS.out _ IC.out HS.out HD.out HM.out IR.out).mono ?_
  rintro e w2 ⟨rfl, b2⟩
  have VD_2 : Hid _ := VD_1.out.step b2
  have VR_2 : Hid _ := VR_1.out.step b2
  have CU_2 : Hid _ := CU_1.out.step b2
  have XV_2 : Hid _ := XV_1.out.step b2
  have BB_2 : Hid _ := BB_1.out.trans (b2.mono BB_1.out.size)
  clear b2
  go_wp2_with fail
  refine hK.out _ _ (⟨VD_2.out, CU_2.out⟩) (fun hh_ => ?_)
  try simp only [nrm]
  clear hK K VD_1 VR_1 CU_1 BB_1 XV_1
  refine tL 7 15 (.tuple #[.agg #[.int .i64 (dhi R), .int .u64 (dlo R), .int .i64 (cdg i)], .int .i64 0]) ?_ ?_
  ·intro wq hS
   go_simp
  try simp only [nrm]
  refine tL 8 23 (.agg (dcs R (cdg i)).toArray) ?_ ?_
  ·intro wq hS
   go_simp
   rfl
  try simp only [nrm]
  refine tL 9 24 (.int .i64 0) ?_ ?_
  ·intro wq hS
   go_simp
  try simp only [nrm]
  clear hh_
  refine rdy 11 (fun K hK => ?_)
  refine dW (by rfl) (by rfl) 44 _ _ (by rfl) q (by rfl) zdl (dcs R (cdg i)) (by rfl) 44 XV_2.out aU rfl (bI _ _) ?_
  intro w9 v9 u9
  have VD_9 : Hid _ := VD_2.out.upd u9 (by have := HQ.out; omega)
  have CU_9 : Hid _ := CU_2.out.upd u9 (by have := HQ.out; omega)
  refine hK.out _ _ ⟨VD_9.out, CU_9.out⟩ (fun hh_ => ?_)
  clear hK K
  refine tL 12 9 (.int .i64 0) ?_ ?_
  ·intro wq hS
   go_simp
  try simp only [nrm]
  clear hh_
  refine dN ?_
  have XV_9 : Hid _ := v9
  have VR_9 : Hid _ := VR_2.out.upd u9 (by have := HQ.out; omega)
  have BB_9 : Hid _ := u9.bel BB_2.out (by have := HQ.out; omega)
  clear v9 u9 VD_2 CU_2 VR_2 BB_2 XV_2 VD_9 CU_9
  have x2 := XV_9.out.cell 2 (v := .int .i64 (cdg i : Int)) rfl
  have f2 := XV_9.out.free 2
  go_upto_region 7 with fail
  clear x2 f2
  have X : Hid (VA (w9.setCell ⟨q, 2, none⟩ (.int .i64 0)) q (dcs R 0) 44) := XV_9.out.set 2 (.int .i64 0)
  have VRA : Hid _ := VR_9.out.set_other (q := q) (by have := HQ.out; omega) 2 (.int .i64 0)
  have BBA : Hid _ := BB_9.out.setCell (p := ⟨q, 2, none⟩) (by have := HQ.out; show _ ≤ q; omega) (.int .i64 0)
  clear XV_9 VR_9 BB_9
  generalize w9.setCell ⟨q, 2, none⟩ (.int .i64 0) = wa at *
  go_wp2_with (refine ldA rfl 44 _ rfl q (by rfl) (dcs R 0) _ X.out _ underlying44 rfl aU ?_)
  refine (fw R _ IR.out (by have := HR0.out; omega) (by have := HR0.out; omega)).mono ?_
  rintro e wb ⟨rfl, bb⟩
  have VRB : Hid _ := VRA.out.step bb
  have BBB : Hid _ := BBA.out.trans (bb.mono BBA.out.size)
  clear bb VRA BBA X
  go_wp2_with fail
  refine (iJ (i : Int) R _ HWI.out).mono ?_
  rintro e wc ⟨rfl, bc⟩
  have VRX : Hid _ := VRB.out.step bc
  have BBX : Hid _ := BBB.out.trans (bc.mono BBB.out.size)
  clear bc VRB BBB
  go_wp2_with (refine stA rfl 195 _ _ rfl (w.heap.size + 1) (by rfl) (mcl 0 0) (mcl 0 0) (by rfl) 195 VRX.out bR rfl (cS _ _) ?_; intro wf vf uf)
  have hld := run_loadVar_row (P := prog) wf (w.heap.size + 1) 195 195 _ (0, 0) _ vf.blk underlying195 rfl bR
  exact bodyPost_ret (v := .tuple #[.agg (mcl 0 0).toArray, .int .i64 4]) (by simp [results, results128, asAddr, hld]) rfl ⟨rfl, uf.bel BBX.out (by omega)⟩
theorem so (c : Int) (s i mode : Nat) (R : Int) (w : World) (T : Cu w) (ic : InR c) (hs : (s : Int) ≤ 18) (hi : i < 4) (hm : (mode : Int) ≤ 6) (hR : R = rv c s (cdg i) mode) (iR : InR R) (h64 : ¬ (-9223372036854775808 ≤ R ∧ R ≤ 9223372036854775807)) :
  Calls prog 128 #[.agg (dcs c s).toArray, .int .i64 i, .int .i64 mode] w fun e w' => e = .returned (.tuple #[.agg (mcl 0 0).toArray, .int .i64 4]) ∧ Below w.heap.size w w' := by
 have hd18 : (cdg i : Int) ≤ 18 := by have := dw i; omega
 have RS : ∀ w, InR c → (s : Int) ≤ 18 → (cdg i : Int) ≤ 18 → (mode : Int) ≤ 6 → InR R → Calls prog 35 #[.agg #[.int .i64 (dhi c), .int .u64 (dlo c), .int .i64 s], .int .i64 (cdg i), .int .i64 mode] w fun e w' => e = .returned (.tuple #[.agg #[.int .i64 (dhi R), .int .u64 (dlo R), .int .i64 (cdg i)], .int .i64 0]) ∧ Below w.heap.size w w' := by
  intro w h1 h2 h3 h4 h5
  rw [hR] at h5 ⊢
  exact cp c s (cdg i) mode w h1 h2 h3 h4 h5
 have HRS : Hid _ := RS
 have IC : Hid (InR c) := ic
 have HS : Hid _ := hs
 have HD : Hid _ := hd18
 have HM : Hid _ := hm
 have IR : Hid (InR R) := iR
 have HR0 : Hid _ := h64
 clear h64
 have VD_0 : Hid _ := (aa w (dcs c s) 44).alloc (.cells (mcl 0 0).toArray 195)
 have VR_0 : Hid _ := aa (w.alloc (.cells (dcs c s).toArray 44)) (mcl 0 0) 195
 rw [show (w.alloc (.cells (dcs c s).toArray 44)).heap.size = w.heap.size + 1 by simp] at VR_0
 have BB_0 : Hid _ := ((Below.refl w.heap.size w).alloc (Nat.le_refl _) (.cells (dcs c s).toArray 44)).alloc (by simp) (.cells (mcl 0 0).toArray 195)
 have CU_0 : Hid _ := (T.alloc (.cells (dcs c s).toArray 44)).alloc (.cells (mcl 0 0).toArray 195)
 have hp : 0 < w.heap.size := T.lt
 have hw := br (n := (i : Int)) (l := 0) (g := 3) (by omega) (by omega)
 clear T RS ic hs hd18 hm iR hR
 go_enter func128, ntmps128
 go_wp2_with fail
 refine (cT i _).mono ?_
 rintro e w1 ⟨rfl, hq⟩
 obtain rfl := hq.symm
 rw [hw]
 clear hw
 go_upto_region 3 with fail
 change Code.wp _ _ _ _ (w.alloc (.cells (dcs c s).toArray 44) |>.alloc (.cells (mcl 0 0).toArray 195))
 generalize (w.alloc (.cells (dcs c s).toArray 44) |>.alloc (.cells (mcl 0 0).toArray 195)) = W at *
 refine wp_region_noPanic ?_
 refine wp_region_held_drew (S := fun w' => VA w' w.heap.size (dcs c s) 44 ∧ Cu w') (by kernel_rfl) ⟨VD_0.out.drew, CU_0.out.drew⟩ (fun hh_ => ?_)
 refine tL 0 16 (.agg #[.int .i64 (dhi c), .int .u64 (dlo c), .int .i64 s]) ?_ ?_
 ·intro wq hS
  have h0 := hS.1.cell 0 (v := .int .i64 (dhi c)) rfl
  have h1 := hS.1.cell 1 (v := .int .u64 (dlo c)) rfl
  have h2 := hS.1.cell 2 (v := .int .i64 s) rfl
  go_simp
 try simp only [nrm]
 refine tL 1 17 (.int .i64 (i : Int)) ?_ ?_
 ·intro wq hS
  go_simp
 try simp only [nrm]
 refine tL 2 18 (.pointer (some ⟨0, i * 2, none⟩)) ?_ ?_
 ·intro wq hS
  go_simp
  intro h; omega
 try simp only [nrm]
 refine tL 3 19 (.pointer (some ⟨0, i * 2 + 1, none⟩)) ?_ ?_
 ·intro wq hS
  go_simp
 try simp only [nrm]
 refine tL 4 20 (.int .i64 (cdg i : Int)) ?_ ?_
 ·intro wq hS
  have h1 := hS.2.row i hi
  go_simp
 try simp only [nrm]
 refine tL 5 21 (.int .i64 (mode : Int)) ?_ ?_
 ·intro wq hS
  go_simp
 try simp only [nrm]
 clear hh_
 have VD_z : Hid _ := VD_0.out.drew
 have VR_z : Hid _ := VR_0.out.drew
 have CU_z : Hid _ := CU_0.out.drew
 have BB_z : Hid _ := BB_0.out.drew
 clear VD_0 VR_0 CU_0 BB_0
 generalize W.drew = wz at *
 refine wpAnyH_ready (rs := [6, 10]) (by kernel_rfl) (by simp) ?_
 refine AllReadyH.cons (by exact rfl) (fun K hK => ?_) (AllReadyH.cons (by exact rfl) (fun K hK => ?_) AllReadyH.nil)
 ·go_simp
  refine (HRS.out _ IC.out HS.out HD.out HM.out IR.out).mono ?_
  rintro e w1 ⟨rfl, b1⟩
  have VD_1 : Hid _ := VD_z.out.step b1
  have VR_1 : Hid _ := VR_z.out.step b1
  have CU_1 : Hid _ := CU_z.out.step b1
  have BB_1 : Hid _ := BB_z.out.trans (b1.mono BB_z.out.size)
  clear b1
  go_wp2_with fail
  refine hK.out _ _ (⟨VD_1.out, CU_1.out⟩) (fun hh_ => ?_)
  try simp only [nrm]
  clear hK K VD_z VR_z CU_z BB_z
  refine tL 7 15 (.tuple #[.agg #[.int .i64 (dhi R), .int .u64 (dlo R), .int .i64 (cdg i)], .int .i64 0]) ?_ ?_
  ·intro wq hS
   go_simp
  try simp only [nrm]
  refine tL 8 23 (.agg (dcs R (cdg i)).toArray) ?_ ?_
  ·intro wq hS
   go_simp
   rfl
  try simp only [nrm]
  refine tL 9 24 (.int .i64 0) ?_ ?_
  ·intro wq hS
   go_simp
  try simp only [nrm]
  clear hh_
  refine rdy 10 (fun K hK => ?_)
  go_simp
  have VD_2 : Hid _ := VD_1.out.alloc (.cells zdl.toArray 44)
  have VR_2 : Hid _ := VR_1.out.alloc (.cells zdl.toArray 44)
  have CU_2 : Hid _ := CU_1.out.alloc (.cells zdl.toArray 44)
  have BB_2 : Hid _ := BB_1.out.alloc BB_1.out.size (.cells zdl.toArray 44)
  have XV_2 : Hid _ := aa w1 zdl 44
  have HQ : Hid (w.heap.size + 1 < w1.heap.size) := VR_1.out.lt
  refine hK.out _ _ ⟨VD_2.out, CU_2.out⟩ (fun hh_ => ?_)
  try simp only [nrm]
  clear hK K hh_ VD_1 VR_1 CU_1 BB_1
  change wpAnyH _ _ _ _ _ _ _ _ (w1.alloc (.cells zdl.toArray 44))
  generalize w1.alloc (.cells zdl.toArray 44) = w2 at *
  generalize w1.heap.size = q at *
  refine rdy 11 (fun K hK => ?_)
  refine dW (by rfl) (by rfl) 44 _ _ (by rfl) q (by rfl) zdl (dcs R (cdg i)) (by rfl) 44 XV_2.out aU rfl (bI _ _) ?_
  intro w9 v9 u9
  have VD_9 : Hid _ := VD_2.out.upd u9 (by have := HQ.out; omega)
  have CU_9 : Hid _ := CU_2.out.upd u9 (by have := HQ.out; omega)
  refine hK.out _ _ ⟨VD_9.out, CU_9.out⟩ (fun hh_ => ?_)
  clear hK K
  refine tL 12 9 (.int .i64 0) ?_ ?_
  ·intro wq hS
   go_simp
  try simp only [nrm]
  clear hh_
  refine dN ?_
  have XV_9 : Hid _ := v9
  have VR_9 : Hid _ := VR_2.out.upd u9 (by have := HQ.out; omega)
  have BB_9 : Hid _ := u9.bel BB_2.out (by have := HQ.out; omega)
  clear v9 u9 VD_2 CU_2 VR_2 BB_2 XV_2 VD_9 CU_9
  have x2 := XV_9.out.cell 2 (v := .int .i64 (cdg i : Int)) rfl
  have f2 := XV_9.out.free 2
  go_upto_region 7 with fail
  clear x2 f2
  have X : Hid (VA (w9.setCell ⟨q, 2, none⟩ (.int .i64 0)) q (dcs R 0) 44) := XV_9.out.set 2 (.int .i64 0)
  have VRA : Hid _ := VR_9.out.set_other (q := q) (by have := HQ.out; omega) 2 (.int .i64 0)
  have BBA : Hid _ := BB_9.out.setCell (p := ⟨q, 2, none⟩) (by have := HQ.out; show _ ≤ q; omega) (.int .i64 0)
  clear XV_9 VR_9 BB_9
  generalize w9.setCell ⟨q, 2, none⟩ (.int .i64 0) = wa at *
  go_wp2_with (refine ldA rfl 44 _ rfl q (by rfl) (dcs R 0) _ X.out _ underlying44 rfl aU ?_)
  refine (kx R _ IR.out HR0.out).mono ?_
  rintro e wb ⟨rfl, bb⟩
  have VRX : Hid _ := VRA.out.step bb
  have BBX : Hid _ := BBA.out.trans (bb.mono BBA.out.size)
  clear bb VRA BBA X
  go_wp2_with (refine stA rfl 195 _ _ rfl (w.heap.size + 1) (by rfl) (mcl 0 0) (mcl 0 0) (by rfl) 195 VRX.out bR rfl (cS _ _) ?_; intro wf vf uf)
  have hld := run_loadVar_row (P := prog) wf (w.heap.size + 1) 195 195 _ (0, 0) _ vf.blk underlying195 rfl bR
  exact bodyPost_ret (v := .tuple #[.agg (mcl 0 0).toArray, .int .i64 4]) (by simp [results, results128, asAddr, hld]) rfl ⟨rfl, uf.bel BBX.out (by omega)⟩
 ·go_simp
  have VD_1 : Hid _ := VD_z.out.alloc (.cells zdl.toArray 44)
  have VR_1 : Hid _ := VR_z.out.alloc (.cells zdl.toArray 44)
  have CU_1 : Hid _ := CU_z.out.alloc (.cells zdl.toArray 44)
  have BB_1 : Hid _ := BB_z.out.alloc BB_z.out.size (.cells zdl.toArray 44)
  have XV_1 : Hid _ := aa wz zdl 44
  have HQ : Hid (w.heap.size + 1 < wz.heap.size) := VR_z.out.lt
  refine hK.out _ _ ⟨VD_1.out, CU_1.out⟩ (fun hh_ => ?_)
  try simp only [nrm]
  clear hK K hh_ VD_z VR_z CU_z BB_z
  change wpAnyH _ _ _ _ _ _ _ _ (wz.alloc (.cells zdl.toArray 44))
  generalize wz.alloc (.cells zdl.toArray 44) = w1 at *
  generalize wz.heap.size = q at *
  refine rdy 6 (fun K hK => ?_)
  go_simp
  refine (HRS.out _ IC.out HS.out HD.out HM.out IR.out).mono ?_
  rintro e w2 ⟨rfl, b2⟩
  have VD_2 : Hid _ := VD_1.out.step b2
  have VR_2 : Hid _ := VR_1.out.step b2
  have CU_2 : Hid _ := CU_1.out.step b2
  have XV_2 : Hid _ := XV_1.out.step b2
  have BB_2 : Hid _ := BB_1.out.trans (b2.mono BB_1.out.size)
  clear b2
  go_wp2_with fail
  refine hK.out _ _ (⟨VD_2.out, CU_2.out⟩) (fun hh_ => ?_)
  try simp only [nrm]
  clear hK K VD_1 VR_1 CU_1 BB_1 XV_1
  refine tL 7 15 (.tuple #[.agg #[.int .i64 (dhi R), .int .u64 (dlo R), .int .i64 (cdg i)], .int .i64 0]) ?_ ?_
  ·intro wq hS
   go_simp
  try simp only [nrm]
  refine tL 8 23 (.agg (dcs R (cdg i)).toArray) ?_ ?_
  ·intro wq hS
   go_simp
   rfl
  try simp only [nrm]
  refine tL 9 24 (.int .i64 0) ?_ ?_
  ·intro wq hS
   go_simp
  try simp only [nrm]
  clear hh_
  refine rdy 11 (fun K hK => ?_)
  refine dW (by rfl) (by rfl) 44 _ _ (by rfl) q (by rfl) zdl (dcs R (cdg i)) (by rfl) 44 XV_2.out aU rfl (bI _ _) ?_
  intro w9 v9 u9
  have VD_9 : Hid _ := VD_2.out.upd u9 (by have := HQ.out; omega)
  have CU_9 : Hid _ := CU_2.out.upd u9 (by have := HQ.out; omega)
  refine hK.out _ _ ⟨VD_9.out, CU_9.out⟩ (fun hh_ => ?_)
  clear hK K
  refine tL 12 9 (.int .i64 0) ?_ ?_
  ·intro wq hS
   go_simp
  try simp only [nrm]
  clear hh_
  refine dN ?_
  have XV_9 : Hid _ := v9
  have VR_9 : Hid _ := VR_2.out.upd u9 (by have := HQ.out; omega)
  have BB_9 : Hid _ := u9.bel BB_2.out (by have := HQ.out; omega)
  clear v9 u9 VD_2 CU_2 VR_2 BB_2 XV_2 VD_9 CU_9
  have x2 := XV_9.out.cell 2 (v := .int .i64 (cdg i : Int)) rfl
  have f2 := XV_9.out.free 2
  go_upto_region 7 with fail
  clear x2 f2
  have X : Hid (VA (w9.setCell ⟨q, 2, none⟩ (.int .i64 0)) q (dcs R 0) 44) := XV_9.out.set 2 (.int .i64 0)
  have VRA : Hid _ := VR_9.out.set_other (q := q) (by have := HQ.out; omega) 2 (.int .i64 0)
  have BBA : Hid _ := BB_9.out.setCell (p := ⟨q, 2, none⟩) (by have := HQ.out; show _ ≤ q; omega) (.int .i64 0)
  clear XV_9 VR_9 BB_9
  generalize w9.setCell ⟨q, 2, none⟩ (.int .i64 0) = wa at *
  go_wp2_with (refine ldA rfl 44 _ rfl q (by rfl) (dcs R 0) _ X.out _ underlying44 rfl aU ?_)
  refine (kx R _ IR.out HR0.out).mono ?_
  rintro e wb ⟨rfl, bb⟩
  have VRX : Hid _ := VRA.out.step bb
  have BBX : Hid _ := BBA.out.trans (bb.mono BBA.out.size)
  clear bb VRA BBA X
  go_wp2_with (refine stA rfl 195 _ _ rfl (w.heap.size + 1) (by rfl) (mcl 0 0) (mcl 0 0) (by rfl) 195 VRX.out bR rfl (cS _ _) ?_; intro wf vf uf)
  have hld := run_loadVar_row (P := prog) wf (w.heap.size + 1) 195 195 _ (0, 0) _ vf.blk underlying195 rfl bR
  exact bodyPost_ret (v := .tuple #[.agg (mcl 0 0).toArray, .int .i64 4]) (by simp [results, results128, asAddr, hld]) rfl ⟨rfl, uf.bel BBX.out (by omega)⟩
theorem uS (c : Int) (s i mode : Nat) (R : Int) (w : World) (T : Cu w) (ic : InR c) (hs : (s : Int) ≤ 18) (hi : i < 4) (hm : (mode : Int) ≤ 6) (hR : R = rv c s (cdg i) mode) (iR : InR R) (hr : ¬ (-10000000000000 ≤ R ∧ R ≤ 10000000000000)) :
  Calls prog 128 #[.agg (dcs c s).toArray, .int .i64 i, .int .i64 mode] w fun e w' => e = .returned (.tuple #[.agg (mcl 0 0).toArray, .int .i64 4]) ∧ Below w.heap.size w w' := by
 by_cases h64 : -9223372036854775808 ≤ R ∧ R ≤ 9223372036854775807
 ·exact sk c s i mode R w T ic hs hi hm hR iR hr h64
 ·exact so c s i mode R w T ic hs hi hm hR iR h64
end Go.Proofs.YtjkiplndbcmmbaaGreatDoor