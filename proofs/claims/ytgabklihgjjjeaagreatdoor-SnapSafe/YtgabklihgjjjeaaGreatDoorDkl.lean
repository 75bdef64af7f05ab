/- disk XI: a file is added to the map; strings.Clone. -/
import Derived.Test.YtgabklihgjjjeaaGreatDoorDki
import Derived.Shelf.Lay
import Derived.Ground.NamesProg
import Derived.Shelf.LaysM
import Derived.Shelf.Strconv.Clone
namespace Go.Proofs.YtgabklihgjjjeaaGreatDoor
open Go.RowKit Go.Shelf Go.Maps pk
set_option linter.unusedVariables false

shelf_lay LaysM.n316 Nm 316 at Tryz as laysM316
theorem clone_ok (s : ByteArray) (w : World) (hs : s.size ≤ 1048576) : Calls Tryz.prog 75 #[.string s] w fun e w' => e = .returned (.string s) ∧ Below w.heap.size w w' := by
  have HC := (show Hid _ from fun w => (Any.stringslite_Clone laysM316 s w (by omega)))
  go_enter Tryz.func75, Tryz.ntmps75
  go_wp2_with (go_at_call 91; refine (HC.out _).mono ?_; rintro e w' ⟨rfl, hb⟩)
  go_ret
  exact ⟨rfl, hb⟩
theorem MapF.congr {w : World} {k : TypeId} {b n : Nat} {f g : Lit → Option Value} (h : MapF w k b n f) (e : ∀ key kl, keyOf Tryz.prog k key = some kl → f kl = g kl) : MapF w k b n g := by
  obtain ⟨D, h1, h2⟩ := h
  refine ⟨D, h1, fun key kl hk => ?_⟩
  rw [← e key kl hk]
  exact h2 key kl hk
theorem str_of {key : Value} {kl : Lit} (h : keyOf Tryz.prog 9 key = some kl) : ∃ s : ByteArray, key = .string s ∧ kl = .string s.data.toList ∧ s.size ≤ maxLen := Go.WideMaps.string_of_keyOf Tryz.underlying9 h
theorem up_app {es : List Ent} {e : Ent} (hf : fd es e.nm = none) {key : Value} {kl : Lit} (h : keyOf Tryz.prog 9 key = some kl) (he : WideAt.IsKeyLit (.string e.nm)) : upF (mf es) (.string e.nm) (ptr e.q) kl = mf (es ++ [e]) kl := by
  obtain ⟨s, rfl, rfl, hs⟩ := str_of h
  show _ = (fd (es ++ [e]) s.data.toList).map _
  unfold fd
  rw [List.find?_append]
  by_cases hl : s.data.toList = e.nm
  · rw [hl, upF_same _ he]
    unfold fd at hf
    rw [hf]
    simp
  · rw [upF_other _ _ (fun h => hl (by injection h))]
    show (fd es _).map _ = _
    unfold fd
    have : (e.nm == s.data.toList) = false := by simpa using fun h => hl h.symm
    rw [List.find?_cons, this]
    simp
/-- a new file, without sectors -/
theorem Dsk.add {w w' : World} {B p m : Nat} {x : DK} (h : Dsk w B p m x) {l : List UInt8} {q : Nat} (hf : fd x.es l = none) (hl : l.length ≤ 16) (hc : x.es.length < 64) (k : But (fun i => i = m) w w')
    (hq : VA w' q [.slice none 0 0, .int .i64 0] 105) (hqn : w.heap.size ≤ q) (hB : B ≤ w.heap.size) (hm : MapF w' 9 m (x.es.length + 1) (upF (mf x.es) (.string l) (ptr q))) :
    Dsk w' B p m { x with es := x.es ++ [⟨l, q, .slice none 0 0, [], 0⟩] } := by
  obtain ⟨ms, c, hmb⟩ := map_blk h.mp
  have hpm : p ≠ m := fun e => by rw [← e, h.va.blk] at hmb; cases hmb
  have hfl : ∀ e ∈ x.es, Fil w' B e := fun e he => (h.fil e he).but k (fun e2 => by rw [← e2, (h.fil e he).blk.blk] at hmb; cases hmb) (fun g hg e2 => by
    obtain ⟨cs, hcs⟩ := row_blk (h.fil e he).row hg
    rw [e2, hmb] at hcs
    cases hcs)
  refine ⟨h.va.but k hpm, ?_, fun e he => ?_, ?_, h.lo, ?_, h.fits.2.1, ?_⟩
  · have := hm.congr (g := mf (x.es ++ [⟨l, q, .slice none 0 0, [], 0⟩])) (fun key kl hk => up_app (e := ⟨l, q, .slice none 0 0, [], 0⟩) hf hk (keyedS.key (nm_key hl)))
    simpa using this
  · rcases List.mem_append.1 he with he | he
    · exact hfl e he
    · obtain rfl := List.mem_singleton.1 he
      exact ⟨hq, own_nil _ _ _, Nat.le_trans hB hqn, Nat.le_refl _, fun s hs => (by cases hs), hl⟩
  · refine List.pairwise_append.2 ⟨h.ap, List.pairwise_singleton _ _, fun a ha b hb => ?_⟩
    obtain rfl := List.mem_singleton.1 hb
    refine ⟨fun e => ?_, fun e => ?_, fun g _ e => by cases e⟩
    · have := List.find?_eq_none.1 hf a ha
      simp [e] at this
    · have := (h.fil a ha).blk.lt
      have e' : a.q = q := e
      omega
  · show tot (x.es ++ [_]) ≤ _
    rw [tot_app]
    have := h.fits.1
    simp only [tot, List.length_nil]
    omega
  · show (x.es ++ [_]).length ≤ 64
    simp
    omega
end Go.Proofs.YtgabklihgjjjeaaGreatDoor
