/- texts of the model: Moa -/
import Derived.Test.YtjkiplndbcmmbaaGreatDoorW17
import Derived.Test.YtjkiplndbcmmbaaGreatDoorW03
set_option linter.unusedVariables false
set_option linter.unusedSimpArgs false
set_option maxHeartbeats 16000000
set_option maxRecDepth 100000
namespace Go.Proofs.YtjkiplndbcmmbaaGreatDoor
open Tryz
open Go.RowKit Go.Maps
open Go.WideElems (Fit rd rg pl rd_key rd_val rg_of other_key)
set_option linter.unusedSectionVars false
def dnF (f : Lit → Option Value) (kl : Lit) : Lit → Option Value := fun x => if x.sameKey kl then none else f x
theorem fm (f : Lit → Option Value) {kl : Lit} (hk : WideAt.IsKeyLit kl) : dnF f kl kl = none := by unfold dnF; rw [if_pos (WideAt.sameKey_self hk)]
theorem ei (f : Lit → Option Value) {kl x : Lit} (h : x ≠ kl) : dnF f kl x = f x := by
 unfold dnF
 rw [if_neg (fun e => h (WideAt.sameKey_eq e))]
theorem MapF.drop {w : World} {k t e : TypeId} {b n : Nat} {f : Lit → Option Value} (h : MapF w k b n f) (K : Keyed prog k) (ht : prog.underlying t = some (.map k e))
  {key : Value} {kl : Lit} (hkey : keyOf prog k key = some kl) (ty : TypeId) : ∃ w', (Builtin.delete_ #[t, k] ty #[.map (some b), key]).run prog w = .ok (.tuple #[]) w' ∧ MapF w' k b n (dnF f kl) ∧ w.mapTurned w' b := by
 obtain ⟨D, h, hf⟩ := h
 obtain ⟨w', hrun, h', ht'⟩ := h.drop K ht hkey ty
 refine ⟨w', hrun, ⟨_, h', fun x xl hx => ?_⟩, ht'⟩
 by_cases e : xl = kl
 ·subst e
  refine ⟨?_, fun z => ?_⟩
  ·rw [has_del_same, fm f (K.key hkey)]; rfl
  ·rw [atKey_del_same, fm f (K.key hkey)]; rfl
 ·refine ⟨?_, fun z => ?_⟩
  ·rw [has_del_other e, (hf x xl hx).1, ei f e]
  ·rw [atKey_del_other e, (hf x xl hx).2, ei f e]
theorem MapF.lenL {w : World} {k : TypeId} {b n : Nat} {f : Lit → Option Value} (h : MapF w k b n f) (K : Keyed prog k) (L : List Lit) (hp : L.Pairwise (fun a b => a ≠ b)) (hi : ∀ kl ∈ L, (∃ key, keyOf prog k key = some kl) ∧ (f kl).isSome = true)
  (ho : ∀ key kl, keyOf prog k key = some kl → (f kl).isSome = true → kl ∈ L) : ∃ D : DataW Value, w.ownsMap prog k heldR b n D ∧ Maps.size D = L.length := by
 obtain ⟨D, hO, hf⟩ := h
 refine ⟨D, hO, ?_⟩
 obtain ⟨ms, clock, hb, F, hs, rfl⟩ := hO
 have h1 := Maps.fit_apart K F
 have hin : ∀ kl, Maps.has (.map ((ms.toList.map (rg prog k heldR)).foldr DataW.insert [])) kl = true ↔ kl ∈ (ms.toList.map (rg prog k heldR)).map (·.1) := fun kl => by
  constructor
  ·intro hh
   obtain ⟨p, hp, hk⟩ := List.any_eq_true.1 hh
   rw [← WideAt.sameKey_eq hk]
   exact List.mem_map.2 ⟨p, mem_sorted.1 hp, rfl⟩
  ·intro hh
   obtain ⟨p, hp, rfl⟩ := List.mem_map.1 hh
   obtain ⟨e, he, rfl⟩ := List.mem_map.1 hp
   obtain ⟨y, hy⟩ := F.reads e he
   refine List.any_eq_true.2 ⟨rg prog k heldR e, mem_sorted.2 (List.mem_map.2 ⟨e, he, rfl⟩), ?_⟩
   rw [rg_of hy]
   exact WideAt.sameKey_self (K.key (rd_key hy))
 have hsz : Maps.size (.map ((ms.toList.map (rg prog k heldR)).foldr DataW.insert [])) = ((ms.toList.map (rg prog k heldR)).map (·.1)).length := by
  simp [Maps.size, length_sorted]
 rw [hsz]
 refine Nat.le_antisymm (pig _ _ (List.pairwise_map.2 h1) (fun kl hk => ?_)) (pig _ _ hp (fun kl hk => ?_))
 ·obtain ⟨p, hp', rfl⟩ := List.mem_map.1 hk
  obtain ⟨e, he, rfl⟩ := List.mem_map.1 hp'
  obtain ⟨y, hy⟩ := F.reads e he
  have := (hin _).2 hk
  rw [rg_of hy] at this ⊢
  rw [(hf _ _ (rd_key hy)).1] at this
  exact ho _ _ (rd_key hy) this
 ·obtain ⟨⟨key, hkey⟩, hsome⟩ := hi kl hk
  refine (hin _).1 ?_
  rw [(hf _ _ hkey).1]
  exact hsome
structure KK (α : Type) where
 kt : TypeId
 kv : α → Value
 kl : α → Lit
 ok : α → Prop
 keyed : Keyed prog kt
 key : ∀ a, ok a → keyOf prog kt (kv a) = some (kl a)
 inj : ∀ a b, kv a = kv b → a = b
variable {α β : Type} [DecidableEq α]
theorem KK.ne (K : KK α) {a b : α} (ha : K.ok a) (hb : K.ok b) (h : a ≠ b) : K.kl a ≠ K.kl b := fun e => h (K.inj a b (K.keyed.inj (K.key a ha) (e ▸ K.key b hb)))
def lkA (xs : List (α × β)) (a : α) : Option β := (xs.find? fun p => decide (p.1 = a)).map (·.2)
theorem mW (a : α) : lkA ([] : List (α × β)) a = none := rfl
theorem di (xs : List (α × β)) (p : α × β) (a : α) : lkA (p :: xs) a = if p.1 = a then some p.2 else lkA xs a := by
 unfold lkA
 rw [List.find?_cons]
 by_cases h : p.1 = a
 ·rw [if_pos h, decide_eq_true h]; rfl
 ·rw [if_neg h, decide_eq_false h]
theorem gx {xs : List (α × β)} {a : α} {b : β} (h : lkA xs a = some b) : (a, b) ∈ xs := by
 unfold lkA at h
 obtain ⟨p, h1, h2⟩ := Option.map_eq_some_iff.1 h
 have h3 := List.find?_some h1
 have h4 := List.mem_of_find?_eq_some h1
 have : p.1 = a := by simpa using h3
 rw [← this, ← h2]
 exact h4
theorem kE {xs : List (α × β)} {a : α} (h : lkA xs a = none) : ∀ p ∈ xs, p.1 ≠ a := by
 unfold lkA at h
 rw [Option.map_eq_none_iff, List.find?_eq_none] at h
 intro p hp e
 exact h p hp (by simpa using e)
theorem me (xs : List (α × β)) (a c : α) : lkA (xs.filter fun p => decide (p.1 ≠ a)) c = if c = a then none else lkA xs c := by
 induction xs with
 | nil => simp [mW]
 | cons p xs ih =>
  by_cases h : p.1 = a
  ·rw [List.filter_cons_of_neg (by simpa using h), ih, di]
   by_cases hc : c = a
   ·rw [if_pos hc, if_pos hc]
   ·rw [if_neg hc, if_neg hc, if_neg (fun e => hc (e.symm.trans h))]
  ·rw [List.filter_cons_of_pos (by simpa using h), di, ih, di]
   by_cases hc : c = a
   ·rw [if_pos hc, if_pos hc, if_neg (fun e => h (e.trans hc))]
   ·rw [if_neg hc, if_neg hc]
structure AM (K : KK α) (enc : β → Value) (w : World) (b : Nat) (xs : List (α × β)) : Prop where
 ok : ∀ p ∈ xs, K.ok p.1
 ex : ∃ f, MapF w K.kt b xs.length f ∧ (∀ a, K.ok a → f (K.kl a) = (lkA xs a).map enc) ∧ (∀ key l, keyOf prog K.kt key = some l → (f l).isSome = true → ∃ p ∈ xs, l = K.kl p.1)
theorem gu (K : KK α) (enc : β → Value) (w : World) : AM K enc (w.alloc (.map #[] 0)) w.heap.size [] :=
 ⟨fun p hp => (by cases hp), _, ep w _, fun a _ => rfl, fun key l _ h => (by cases h)⟩
theorem AM.lt {K : KK α} {enc : β → Value} {w : World} {b : Nat} {xs : List (α × β)} (h : AM K enc w b xs) : b < w.heap.size := by
 obtain ⟨f, h1, _⟩ := h.ex; exact h1.lt
theorem AM.but {K : KK α} {enc : β → Value} {X : Nat → Prop} {w w' : World} {b : Nat} {xs : List (α × β)} (h : AM K enc w b xs) (k : But X w w') (hb : ¬ X b) : AM K enc w' b xs := by
 obtain ⟨f, h1, h2⟩ := h.ex; exact ⟨h.ok, f, h1.but k hb, h2⟩
theorem AM.step {K : KK α} {enc : β → Value} {w w' : World} {b : Nat} {xs : List (α × β)} (h : AM K enc w b xs) (k : Below w.heap.size w w') : AM K enc w' b xs := by
 obtain ⟨f, h1, h2⟩ := h.ex; exact ⟨h.ok, f, h1.step k, h2⟩
theorem AM.isMap {K : KK α} {enc : β → Value} {w : World} {b : Nat} {xs : List (α × β)} (h : AM K enc w b xs) : ∃ es clock, w.heap[b]? = some (.map es clock) := by
 obtain ⟨f, ⟨D, ⟨es, clock, hb, _⟩, _⟩, _⟩ := h.ex
 exact ⟨es, clock, hb⟩
theorem AM.look {K : KK α} {enc : β → Value} {w : World} {b : Nat} {xs : List (α × β)} (h : AM K enc w b xs) {t e : TypeId} (ht : prog.underlying t = some (.map K.kt e)) {z : Value} (hz : (zeroValue e).run prog w = .ok z w) {a : α} (ha : K.ok a) :
  (Instr.lookup t (.map (some b)) (K.kv a) false).run prog w = .ok (((lkA xs a).map enc).getD z) w := by
 obtain ⟨f, h1, h2, _⟩ := h.ex
 rw [← h2 a ha]
 exact h1.look K.keyed ht hz (K.key a ha)
theorem AM.look_ok {K : KK α} {enc : β → Value} {w : World} {b : Nat} {xs : List (α × β)} (h : AM K enc w b xs) {t e : TypeId} (ht : prog.underlying t = some (.map K.kt e)) {z : Value} (hz : (zeroValue e).run prog w = .ok z w) {a : α} (ha : K.ok a) :
  (Instr.lookup t (.map (some b)) (K.kv a) true).run prog w = .ok (.tuple #[((lkA xs a).map enc).getD z, .bool (lkA xs a).isSome]) w := by
 obtain ⟨f, h1, h2, _⟩ := h.ex
 have := h1.look_ok K.keyed ht hz (K.key a ha)
 rw [h2 a ha, Option.isSome_map] at this
 exact this
theorem AM.store {K : KK α} {enc : β → Value} {w : World} {b : Nat} {xs : List (α × β)} (h : AM K enc w b xs) {t e : TypeId} (ht : prog.underlying t = some (.map K.kt e)) (hn : xs.length < maxLen) {a : α} (ha : K.ok a) (v : β) :
  ∃ w', (Instr.mapUpdate t (.map (some b)) (K.kv a) (enc v)).run prog w = .ok () w' ∧ AM K enc w' b ((a, v) :: xs) ∧ w.mapTurned w' b := by
 obtain ⟨f, h1, h2, h3⟩ := h.ex
 obtain ⟨w', r1, r2, r3⟩ := h1.store K.keyed ht hn (K.key a ha) (enc v)
 refine ⟨w', r1, ⟨fun p hp => ?_, _, r2, fun c hc => ?_, fun key l hl hs => ?_⟩, r3⟩
 ·rcases List.mem_cons.1 hp with rfl | hp
  ·exact ha
  ·exact h.ok p hp
 ·rw [di]
  by_cases e : a = c
  ·subst e
   rw [dq f (K.keyed.key (K.key a ha)), if_pos rfl]
   rfl
  ·rw [bC f _ (K.ne hc ha (fun e' => e e'.symm)), h2 c hc, if_neg e]
 ·by_cases e : l = K.kl a
  ·exact ⟨(a, v), List.mem_cons_self, e⟩
  ·rw [bC f _ e] at hs
   obtain ⟨p, hp, e⟩ := h3 key l hl hs
   exact ⟨p, List.mem_cons_of_mem _ hp, e⟩
theorem AM.drop {K : KK α} {enc : β → Value} {w : World} {b : Nat} {xs : List (α × β)} (h : AM K enc w b xs) {t e : TypeId} (ht : prog.underlying t = some (.map K.kt e)) {a : α} (ha : K.ok a) (ty : TypeId) :
  ∃ w', (Builtin.delete_ #[t, K.kt] ty #[.map (some b), K.kv a]).run prog w = .ok (.tuple #[]) w' ∧ AM K enc w' b (xs.filter fun p => decide (p.1 ≠ a)) ∧ w.mapTurned w' b := by
 obtain ⟨f, h1, h2, h3⟩ := h.ex
 obtain ⟨w', r1, r2, r3⟩ := h1.drop K.keyed ht (K.key a ha) ty
 have hout : ∀ key l, keyOf prog K.kt key = some l → (dnF f (K.kl a) l).isSome = true → ∃ p ∈ xs.filter fun p => decide (p.1 ≠ a), l = K.kl p.1 := fun key l hl hs => by
  by_cases e : l = K.kl a
  ·subst e
   rw [fm f (K.keyed.key (K.key a ha))] at hs
   cases hs
  ·rw [ei f e] at hs
   obtain ⟨p, hp, rfl⟩ := h3 key l hl hs
   exact ⟨p, List.mem_filter.2 ⟨hp, by simpa using fun e' => e (by rw [e'])⟩, rfl⟩
 have hfit := r2.fit K.keyed ((xs.filter fun p => decide (p.1 ≠ a)).map fun p => K.kl p.1) (fun key l hl hs => by
  obtain ⟨p, hp, rfl⟩ := hout key l hl hs
  exact List.mem_map.2 ⟨p, hp, rfl⟩)
 rw [List.length_map] at hfit
 refine ⟨w', r1, ⟨fun p hp => h.ok p (List.mem_filter.1 hp).1, _, hfit, fun c hc => ?_, hout⟩, r3⟩
 rw [me]
 by_cases e : c = a
 ·subst e
  rw [fm f (K.keyed.key (K.key c ha)), if_pos rfl]
  rfl
 ·rw [ei f (K.ne hc ha e), h2 c hc, if_neg e]
theorem AM.len {K : KK α} {enc : β → Value} {w : World} {b : Nat} {xs : List (α × β)} (h : AM K enc w b xs) {t e : TypeId} (ht : prog.underlying t = some (.map K.kt e)) (hp : xs.Pairwise fun p q => p.1 ≠ q.1) (ty : TypeId) :
  (Builtin.len_ #[t] ty #[.map (some b)]).run prog w = .ok (.int .i64 xs.length) w := by
 obtain ⟨f, h1, h2, h3⟩ := h.ex
 obtain ⟨D, g1, g2⟩ := h1.lenL K.keyed (xs.map fun p => K.kl p.1) (List.pairwise_map.2 (hp.imp_of_mem fun {p q} hp hq hne => K.ne (h.ok p hp) (h.ok q hq) hne)) (fun kl hkl => by
  obtain ⟨p, hpm, rfl⟩ := List.mem_map.1 hkl
  refine ⟨⟨_, K.key p.1 (h.ok p hpm)⟩, ?_⟩
  rw [h2 p.1 (h.ok p hpm), Option.isSome_map]
  cases hl : lkA xs p.1 with
  | none => exact absurd rfl (kE hl p hpm)
  | some _ => rfl) (fun key l hl hs => by
  obtain ⟨p, hpm, rfl⟩ := h3 key l hl hs
  exact List.mem_map.2 ⟨p, hpm, rfl⟩)
 rw [List.length_map] at g2
 rw [← g2]
 exact g1.len ht ty
end Go.Proofs.YtjkiplndbcmmbaaGreatDoor