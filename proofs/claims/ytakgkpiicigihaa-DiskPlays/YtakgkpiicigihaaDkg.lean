/- disk VII: how many files there are; fits; find. -/
import Derived.Test.YtakgkpiicigihaaDkf
namespace Go.Proofs.Ytakgkpiicigihaa
open Go.RowKit Go.Shelf Go.Maps pk
open Go.WideElems (Fit rd rg pl rd_key rd_val rg_of other_key)
set_option linter.unusedVariables false

def lits (es : List Ent) : List Lit := es.map fun e => .string e.nm
theorem fd_mem {es : List Ent} {l : List UInt8} {e : Ent} (h : fd es l = some e) : e ∈ es ∧ e.nm = l := by
  unfold fd at h
  exact ⟨List.mem_of_find?_eq_some h, by simpa using List.find?_some h⟩
theorem mf_some {es : List Ent} {kl : Lit} {c : Value} (h : mf es kl = some c) : ∃ e, e ∈ es ∧ kl = .string e.nm ∧ c = ptr e.q ∧ fd es e.nm = some e := by
  cases kl with
  | string l =>
    obtain ⟨e, h1, h2⟩ := Option.map_eq_some_iff.1 h
    obtain ⟨h3, rfl⟩ := fd_mem h1
    exact ⟨e, h3, rfl, h2.symm, h1⟩
  | _ => cases h
theorem fd_of {es : List Ent} (hp : es.Pairwise Apart) {e : Ent} (he : e ∈ es) : fd es e.nm = some e := by
  induction es with
  | nil => cases he
  | cons a es ih =>
    obtain ⟨h1, h2⟩ := List.pairwise_cons.1 hp
    unfold fd
    rw [List.find?_cons]
    rcases List.mem_cons.1 he with rfl | he
    · simp
    · have : (a.nm == e.nm) = false := by simpa using (h1 e he).1
      rw [this]
      exact ih h2 he
theorem nm_key {l : List UInt8} (h : l.length ≤ 16) : keyOf Try.prog 9 (.string ⟨l.toArray⟩) = some (.string l) := by
  have := keyS (s := ⟨l.toArray⟩) (by show l.toArray.size ≤ _; simp; omega)
  simpa using this
/-- a map of files has as many entries as there are files -/
theorem MapF.lenS {w : World} {b n : Nat} {es : List Ent} (h : MapF w 9 b n (mf es)) (hp : es.Pairwise Apart) (hn : ∀ e ∈ es, e.nm.length ≤ 16) : ∃ D : DataW Value, w.ownsMap Try.prog 9 heldR b n D ∧ Maps.size D = es.length := by
  obtain ⟨D, ho, hf⟩ := h
  refine ⟨D, ho, ?_⟩
  obtain ⟨ms, clock, hb, F, hs, rfl⟩ := ho
  have h1 := Maps.fit_apart keyedS F
  have hin : ∀ kl, Maps.has (.map ((ms.toList.map (rg Try.prog 9 heldR)).foldr DataW.insert [])) kl = true ↔ kl ∈ (ms.toList.map (rg Try.prog 9 heldR)).map (·.1) := fun kl => by
    constructor
    · intro hh
      obtain ⟨p, hp, hk⟩ := List.any_eq_true.1 hh
      rw [← WideAt.sameKey_eq hk]
      exact List.mem_map.2 ⟨p, mem_sorted.1 hp, rfl⟩
    · intro hh
      obtain ⟨p, hp, rfl⟩ := List.mem_map.1 hh
      obtain ⟨e, he, rfl⟩ := List.mem_map.1 hp
      obtain ⟨y, hy⟩ := F.reads e he
      refine List.any_eq_true.2 ⟨rg Try.prog 9 heldR e, mem_sorted.2 (List.mem_map.2 ⟨e, he, rfl⟩), ?_⟩
      rw [rg_of hy]
      exact WideAt.sameKey_self (keyedS.key (rd_key hy))
  have hsz : Maps.size (.map ((ms.toList.map (rg Try.prog 9 heldR)).foldr DataW.insert [])) = ((ms.toList.map (rg Try.prog 9 heldR)).map (·.1)).length := by
    simp [Maps.size, length_sorted]
  rw [hsz]
  have hll : (lits es).length = es.length := by simp [lits]
  rw [← hll]
  refine Nat.le_antisymm (pig _ _ (List.pairwise_map.2 h1) (fun kl hk => ?_)) (pig _ _ ?_ (fun kl hk => ?_))
  · obtain ⟨p, hp', rfl⟩ := List.mem_map.1 hk
    obtain ⟨e, he, rfl⟩ := List.mem_map.1 hp'
    obtain ⟨y, hy⟩ := F.reads e he
    have := (hin _).2 hk
    rw [rg_of hy] at this ⊢
    rw [(hf _ _ (rd_key hy)).1] at this
    obtain ⟨c, hc⟩ := Option.isSome_iff_exists.1 this
    obtain ⟨e', h3, h4, _⟩ := mf_some hc
    exact List.mem_map.2 ⟨e', h3, h4.symm⟩
  · exact List.pairwise_map.2 (hp.imp (fun h e => h.1 (by injection e)))
  · obtain ⟨e, he, rfl⟩ := List.mem_map.1 hk
    refine (hin _).1 ?_
    rw [(hf _ _ (nm_key (hn e he))).1]
    show ((fd es e.nm).map _).isSome = true
    rw [fd_of hp he]
    rfl
theorem Dsk.lenRun {w : World} {B p m : Nat} {x : DK} (h : Dsk w B p m x) : (Builtin.len_ #[61] 3 #[.map (some m)]).run Try.prog w = .ok (.int .i64 x.es.length) w := by
  obtain ⟨D, h1, h2⟩ := MapF.lenS h.mp h.ap (fun e he => (h.fil e he).nm)
  rw [← h2]
  exact h1.len Try.underlying61 _
theorem zeroF (w : World) : (zeroValue 82).run Try.prog w = .ok (.pointer none) w := Try.zeroValue82 w
theorem Dsk.look {w : World} {B p m : Nat} {x : DK} (h : Dsk w B p m x) {s : ByteArray} (hs : s.size ≤ 1048576) : (Instr.lookup 61 (.map (some m)) (.string s) false).run Try.prog w = .ok (((fd x.es s.data.toList).map fun e => ptr e.q).getD (.pointer none)) w :=
  h.mp.look keyedS Try.underlying61 (zeroF w) (keyS hs)
/-- the sectors of the files that are still to come -/
def rem (left : Lit → Bool) : List Ent → Nat
  | [] => 0
  | e :: es => (if left (.string e.nm) then e.ss.length else 0) + rem left es
theorem rem_none {left : Lit → Bool} (h : ∀ kl, left kl = false) (es : List Ent) : rem left es = 0 := by
  induction es with
  | nil => rfl
  | cons e es ih => simp [rem, h, ih]
theorem rem_all {left : Lit → Bool} {es : List Ent} (h : ∀ e ∈ es, left (.string e.nm) = true) : rem left es = tot es := by
  induction es with
  | nil => rfl
  | cons e es ih => simp [rem, tot, h e (List.mem_cons_self ..), ih (fun a ha => h a (List.mem_cons_of_mem _ ha))]
theorem rem_same {left : Lit → Bool} {l : List UInt8} {es : List Ent} (h : ∀ e ∈ es, e.nm ≠ l) : rem (fun z => left z && !z.sameKey (.string l)) es = rem left es := by
  induction es with
  | nil => rfl
  | cons e es ih =>
    have : (Lit.string e.nm).sameKey (.string l) = false := by
      cases hh : (Lit.string e.nm).sameKey (.string l)
      · rfl
      · have := WideAt.sameKey_eq hh
        injection this with this
        exact absurd this (h e (List.mem_cons_self ..))
    simp only [rem, this, Bool.not_false, Bool.and_true]
    rw [ih (fun a ha => h a (List.mem_cons_of_mem _ ha))]
theorem rem_step {left : Lit → Bool} {es : List Ent} (hp : es.Pairwise Apart) {e : Ent} (he : e ∈ es) (hl : left (.string e.nm) = true) (hk : (Lit.string e.nm).sameKey (.string e.nm) = true) : rem left es = rem (fun z => left z && !z.sameKey (.string e.nm)) es + e.ss.length := by
  induction es with
  | nil => cases he
  | cons a es ih =>
    obtain ⟨h1, h2⟩ := List.pairwise_cons.1 hp
    rcases List.mem_cons.1 he with rfl | he
    · simp only [rem, hl, hk, Bool.not_true, Bool.and_false]
      rw [rem_same (fun b hb => (h1 b hb).1.symm)]
      simp
      omega
    · have : (Lit.string a.nm).sameKey (.string e.nm) = false := by
        cases hh : (Lit.string a.nm).sameKey (.string e.nm)
        · rfl
        · have := WideAt.sameKey_eq hh
          injection this with this
          exact absurd this (h1 e he).1
      simp only [rem, this, Bool.not_false, Bool.and_true]
      rw [ih h2 he]
      omega
end Go.Proofs.Ytakgkpiicigihaa
