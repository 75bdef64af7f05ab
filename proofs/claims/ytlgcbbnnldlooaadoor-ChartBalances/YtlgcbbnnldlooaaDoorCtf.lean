/- chart: the arithmetic of entries: units, sums by account and by currency; plus of a line. -/
import Derived.Test.YtlgcbbnnldlooaaDoorCte
namespace Go.Proofs.YtlgcbbnnldlooaaDoor
open Go.RowKit Go.Maps
set_option linter.unusedVariables false

def M32 : Int := 100000000000000000000000000000000
/-- a line's amount in 10^-12 -/
def Ln.un (x : Ln) : Int := x.cf * (10 : Int) ^ (12 - x.s.toNat)
/-- the sum of an account's lines; whether it has one; the sum of a currency's lines -/
def sat (ls : List Ln) (c u : Int) : Int := (ls.map (fun x => if x.code = c ∧ x.cur = u then x.un else 0)).sum
def tch (ls : List Ln) (c u : Int) : Bool := ls.any (fun x => decide (x.code = c ∧ x.cur = u))
def sau (ls : List Ln) (u : Int) : Int := (ls.map (fun x => if x.cur = u then x.un else 0)).sum
def tcu (ls : List Ln) (u : Int) : Bool := ls.any (fun x => decide (x.cur = u))
theorem pow12_split {n : Nat} (h : n ≤ 12) : (10 : Int) ^ n * (10 : Int) ^ (12 - n) = 1000000000000 := by
  rw [← Int.pow_add, show n + (12 - n) = 12 by omega]
  decide
theorem good_form {x : Ln} (hx : x.wf) (ho : x.ok = true) : ∃ (c : Int) (n : Nat), x.h = dhi c ∧ x.l = dlo c ∧ x.s = (n : Int) ∧ n ≤ 12 ∧ InR c ∧ x.cf = c ∧ x.un = c * (10 : Int) ^ (12 - n) ∧ -M32 ≤ x.un ∧ x.un ≤ M32 := by
  unfold Ln.ok at ho
  simp only [Bool.and_eq_true, decide_eq_true_eq, Bool.not_eq_true'] at ho
  obtain ⟨⟨s0, s1⟩, hf⟩ := ho
  have hf2 := of_decide_eq_false hf
  rcases form_cases x.h x.l x.s hx.h hx.l with hb | ⟨c, n, h1, h2, h3, ic, hn⟩
  · rcases hb with hb | ⟨e1, e2⟩
    · omega
    · exfalso
      have hp : (0 : Int) < (10 : Int) ^ x.s.toNat ∧ (10 : Int) ^ x.s.toNat ≤ 10 ^ 12 := ⟨Int.pow_pos (by decide), p10_12 (by omega)⟩
      apply hf2
      right
      unfold Ln.cf
      rw [e1, e2]
      generalize (10 : Int) ^ x.s.toNat = p at *
      unfold M20
      have h12 : (10 : Int) ^ 12 = 1000000000000 := by decide
      omega
  · have ec : x.cf = c := cf_of (s := x.s) h1 h2
    have es : x.s.toNat = n := by rw [h3]; exact Int.toNat_natCast n
    rw [es, ec] at hf2
    have eu : x.un = c * (10 : Int) ^ (12 - n) := by unfold Ln.un; rw [ec, es]
    refine ⟨c, n, h1, h2, h3, by omega, ic, ec, eu, ?_, ?_⟩
    · rw [eu]
      have hp : (0 : Int) < (10 : Int) ^ (12 - n) := Int.pow_pos (by decide)
      have := Int.mul_le_mul_of_nonneg_right (show -(M20 * (10 : Int) ^ n) ≤ c by omega) (Int.le_of_lt hp)
      rw [Int.neg_mul, Int.mul_assoc, pow12_split (by omega)] at this
      unfold M32; unfold M20 at this; omega
    · rw [eu]
      have hp : (0 : Int) < (10 : Int) ^ (12 - n) := Int.pow_pos (by decide)
      have := Int.mul_le_mul_of_nonneg_right (show c ≤ M20 * (10 : Int) ^ n by omega) (Int.le_of_lt hp)
      rw [Int.mul_assoc, pow12_split (by omega)] at this
      unfold M32; unfold M20 at this; omega
theorem sum_bd (f : Ln → Int) : ∀ (ls : List Ln), (∀ x ∈ ls, -M32 ≤ f x ∧ f x ≤ M32) → -((ls.length : Int) * M32) ≤ (ls.map f).sum ∧ (ls.map f).sum ≤ (ls.length : Int) * M32
  | [], _ => by simp
  | x :: ls, h => by
    have h1 := h x (List.mem_cons_self ..)
    have h2 := sum_bd f ls (fun y hy => h y (List.mem_cons_of_mem _ hy))
    simp only [List.map_cons, List.sum_cons, List.length_cons]
    rw [show (((ls.length + 1 : Nat) : Int)) * M32 = (ls.length : Int) * M32 + M32 by rw [Int.natCast_add, Int.add_mul]; simp]
    omega
theorem sat_bd {ls : List Ln} (h : ∀ x ∈ ls, x.wf ∧ x.ok = true) (c u : Int) : -((ls.length : Int) * M32) ≤ sat ls c u ∧ sat ls c u ≤ (ls.length : Int) * M32 :=
  sum_bd _ ls (fun x hx => by
    obtain ⟨_, _, _, _, _, _, _, _, _, h1, h2⟩ := good_form (h x hx).1 (h x hx).2
    by_cases e : x.code = c ∧ x.cur = u
    · rw [if_pos e]; exact ⟨h1, h2⟩
    · rw [if_neg e]; decide)
theorem sau_bd {ls : List Ln} (h : ∀ x ∈ ls, x.wf ∧ x.ok = true) (u : Int) : -((ls.length : Int) * M32) ≤ sau ls u ∧ sau ls u ≤ (ls.length : Int) * M32 :=
  sum_bd _ ls (fun x hx => by
    obtain ⟨_, _, _, _, _, _, _, _, _, h1, h2⟩ := good_form (h x hx).1 (h x hx).2
    by_cases e : x.cur = u
    · rw [if_pos e]; exact ⟨h1, h2⟩
    · rw [if_neg e]; decide)
theorem take_snoc {ls : List Ln} {k : Nat} {x : Ln} (hx : ls[k]? = some x) : ls.take (k + 1) = ls.take k ++ [x] := by rw [List.take_add_one, hx]; rfl
theorem sat_snoc (ls : List Ln) (x : Ln) (c u : Int) : sat (ls ++ [x]) c u = sat ls c u + if x.code = c ∧ x.cur = u then x.un else 0 := by simp [sat]
theorem tch_snoc (ls : List Ln) (x : Ln) (c u : Int) : tch (ls ++ [x]) c u = (tch ls c u || decide (x.code = c ∧ x.cur = u)) := by simp [tch]
theorem sau_snoc (ls : List Ln) (x : Ln) (u : Int) : sau (ls ++ [x]) u = sau ls u + if x.cur = u then x.un else 0 := by simp [sau]
theorem tcu_snoc (ls : List Ln) (x : Ln) (u : Int) : tcu (ls ++ [x]) u = (tcu ls u || decide (x.cur = u)) := by simp [tcu]
theorem sat_none {ls : List Ln} {c u : Int} (h : tch ls c u = false) : sat ls c u = 0 := by
  induction ls with
  | nil => rfl
  | cons x ls ih =>
    simp only [tch, List.any_cons, Bool.or_eq_false_iff, decide_eq_false_iff_not] at h
    have := ih h.2
    simp only [sat, List.map_cons, List.sum_cons, if_neg h.1] at this ⊢
    omega
theorem inr36 {z : Int} (h : -(4 * M36) ≤ z ∧ z ≤ 4 * M36) : InR z := by
  unfold M36 at h
  refine ⟨?_, ?_⟩ <;> (unfold M127; omega)
/-- a sum of scale 12 and a line -/
theorem plus_ln (x : Ln) (hx : x.wf) (ho : x.ok = true) (z : Int) (hz : -(2 * M36) ≤ z ∧ z ≤ 2 * M36) (w : World) :
    Calls Tryd.prog 40 #[dv z 12, .agg #[.int .i64 x.h, .int .u64 x.l, .int .i64 x.s]] w fun e w' => e = .returned (dv (z + x.un) 12) ∧ Below w.heap.size w w' := by
  obtain ⟨c, n, h1, h2, h3, hn, ic, ec, eu, b1, b2⟩ := good_form hx ho
  have et : tv z 12 c n = z + x.un := by
    unfold tv
    rw [Nat.max_eq_left hn, eu]
    simp
  have := cplus_ok z c 12 n w (inr36 (by omega)) ic (by decide) (by omega) (by rw [et]; exact inr36 (by unfold M32 M36 at *; omega))
  rw [et, Nat.max_eq_left hn] at this
  rw [h1, h2, h3]
  exact this
/-- v, ok := m[key], where it is there, and where it isn't -/
theorem lkS {w : World} {ops : Array Oper} {rest : List Oper} {o : Oper} {a : Act} {Q : Exit → Act → World → Prop} (hg : o.guard = none) (m x : Operand) (t : TypeId) (hop : o.op = Op.lookup t m x true)
    (k e : TypeId) (K : Keyed Tryd.prog k) (ht : Tryd.prog.underlying t = some (.map k e)) (z : Value) (hz : (zeroValue e).run Tryd.prog w = .ok z w) (b n : Nat) (f : Lit → Option Value) (hm : a.eval m = .map (some b)) (h : MapF w k b n f)
    (key : Value) (kl : Lit) (hx : a.eval x = key) (hkey : keyOf Tryd.prog k key = some kl) (v : Value) (hv : f kl = some v)
    (hK : wpList Tryd.prog ops Q rest (a.put o.dst (.tuple #[v, .bool true])) w) : wpList Tryd.prog ops Q (o :: rest) a w :=
  lkM hg m x t hop k e K ht z hz b n f hm h key kl hx hkey (by rw [hv]; exact hK)
theorem lkN {w : World} {ops : Array Oper} {rest : List Oper} {o : Oper} {a : Act} {Q : Exit → Act → World → Prop} (hg : o.guard = none) (m x : Operand) (t : TypeId) (hop : o.op = Op.lookup t m x true)
    (k e : TypeId) (K : Keyed Tryd.prog k) (ht : Tryd.prog.underlying t = some (.map k e)) (z : Value) (hz : (zeroValue e).run Tryd.prog w = .ok z w) (b n : Nat) (f : Lit → Option Value) (hm : a.eval m = .map (some b)) (h : MapF w k b n f)
    (key : Value) (kl : Lit) (hx : a.eval x = key) (hkey : keyOf Tryd.prog k key = some kl) (hv : f kl = none)
    (hK : wpList Tryd.prog ops Q rest (a.put o.dst (.tuple #[z, .bool false])) w) : wpList Tryd.prog ops Q (o :: rest) a w :=
  lkM hg m x t hop k e K ht z hz b n f hm h key kl hx hkey (by rw [hv]; exact hK)
end Go.Proofs.YtlgcbbnnldlooaaDoor
