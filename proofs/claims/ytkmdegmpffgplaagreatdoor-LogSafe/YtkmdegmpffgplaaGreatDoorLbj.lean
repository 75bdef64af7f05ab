/- log XVIII: payloads behind payloads. -/
import Derived.Test.YtkmdegmpffgplaaGreatDoorLbi
import Derived.Test.YtkmdegmpffgplaaGreatDoorLac
namespace Go.Proofs.YtkmdegmpffgplaaGreatDoor
open Go.RowKit Go.Maps Go.Sort Go.Shelf pk
set_option linter.unusedVariables false
set_option linter.unusedSimpArgs false
theorem own_no {w : World} {B : Nat} {v : Value} {ts : List TB} (h : Own KT w B v ts) : ∀ n c, v = .slice none n c → c = 0 := fun n c e => by
  rcases h.own.2 with ⟨e2, _⟩ | ⟨q, cap, cur, e2, _⟩
  · rw [e2] at e; cases e; rfl
  · rw [e2] at e; cases e
theorem Pay.rws {w : World} {B : Nat} {v : Value} {ps : List (List Nat)} (h : Pay w B v ps) : ∃ ts, ts.map (·.bs) = ps ∧ Rws w v ts := by
  obtain ⟨ts, h1, h2, h3⟩ := h.ex
  exact ⟨ts, h1, h2.sl, fun t ht => (h3 t ht).1⟩
/-- append(payloads, more...) -/
theorem appPay {w : World} {ops : Array Oper} {rest : List Oper} {o : Oper} {a : Act} {Q : Exit → Act → World → Prop} (hgd : Region.wanted o (yielded ops a.tmps) = true) (s x : Operand)
    (ho : o.op = .call { callee := .builtin .append, args := #[s, x], argTypes := #[30, 30] })
    (B B2 : Nat) (ps qs : List (List Nat)) (v u : Value) (hs : a.eval s = v) (hx : a.eval x = u)
    (hp : Pay w B v ps) (hq : Pay w B2 u qs) (hB : B ≤ w.heap.size) (hl : ps.length + qs.length ≤ 1000000)
    (h : ∀ v' w', Pay w' B v' (ps ++ qs) → Below B w w' → (∃ ts, Own KT w B v ts ∧ w.grownBy w' v.ownBlock) → wpList Tryz.prog ops Q rest (a.put o.dst v') w') :
    wpList Tryz.prog ops Q (o :: rest) a w := by
  obtain ⟨ts, h1, h2, h3⟩ := hp.ex
  obtain ⟨us, g1, g2, g3⟩ := hq.ex
  have l1 : ts.length = ps.length := by have := congrArg List.length h1; simpa using this
  have l2 : us.length = qs.length := by have := congrArg List.length g1; simpa using this
  refine appSw (K := KT) hgd s x ho B ts us v u hs hx h2 g2.sl (own_no g2) hB (by show (ts.length + us.length) * 24 ≤ _; omega) (by omega) (fun v' w' o' b' gr => h v' w' ?_ b' ⟨ts, h2, gr⟩)
  refine ⟨ts ++ us, by rw [List.map_append, h1, g1], o', fun t ht => ?_⟩
  rcases List.mem_append.1 ht with ht | ht
  · exact ⟨bs_grown (h3 t ht).1 (h3 t ht).2 h2 gr, (h3 t ht).2.grown h2 gr⟩
  · exact ⟨bs_grown (g3 t ht).1 (g3 t ht).2 h2 gr, (g3 t ht).2.grown h2 gr⟩
end Go.Proofs.YtkmdegmpffgplaaGreatDoor
/- log XIX: the last segment's number matters to nobody's links. -/
namespace Go.Proofs.YtkmdegmpffgplaaGreatDoor
open Go.RowKit Go.Maps Go.Sort Go.Shelf pk
set_option linter.unusedVariables false
def LG.hi (g : LG) (h : Nat) : LG := { g with high := h }
theorem fol_hi (g : LG) (h : Nat) (r : Rc) : (g.hi h).fol r = (g.fol r).hi h := rfl
theorem ahd_hi (g : LG) (h : Nat) : (g.hi h).ahd = g.ahd := rfl
theorem empty_hi (g : LG) (h : Nat) : (g.hi h).empty = g.empty := rfl
theorem adv_hi (g : LG) (h : Nat) (rs : List Rc) : adv (g.hi h) rs = (adv g rs).hi h := by
  induction rs generalizing g with
  | nil => rfl
  | cons a rs ih => exact ih (g.fol a)
theorem lkd_hi (g : LG) (h : Nat) (rs : List Rc) : Lkd (g.hi h) rs ↔ Lkd g rs := by
  induction rs generalizing g with
  | nil => exact Iff.rfl
  | cons a rs ih =>
    show (_ ∧ Lkd ((g.fol a).hi h) rs) ↔ (_ ∧ Lkd (g.fol a) rs)
    rw [ih (g.fol a)]
    exact Iff.rfl
end Go.Proofs.YtkmdegmpffgplaaGreatDoor
