/- log XXVIII: rows of uint16, of int64 and of rows of bytes; what comes in. -/
import Derived.Test.YtkmdegmpffgplaaGreatDoorLbm
import Derived.Test.YtkmdegmpffgplaaGreatDoorLap
import Derived.Lib.SlBytesConst
namespace Go.Proofs.YtkmdegmpffgplaaGreatDoor
open Go.ChangeShapes Go.WideShapes Go.ChangeAt Go.RowKit pk
set_option linter.unusedVariables false
set_option linter.unusedSimpArgs false

theorem infoH : (Tryz.prog.info? 44).map (fun i => (i.zero.map (fun z => z.cells.size), i.size, i.bytes)) = some (some 1, 1, 2) := by kernel_rfl
def KH : Kd Nat where
  T := 44
  S := 40
  k := 1
  bt := 2
  enc := fun b => [.int .u16 (b : Int)]
  info := by
    obtain ⟨i, hi, hz⟩ := Option.map_eq_some_iff.1 infoH
    simp only [Prod.mk.injEq] at hz
    obtain ⟨z, hz0, hz1⟩ := Option.map_eq_some_iff.1 hz.1
    exact ⟨i, z, hi, hz0, hz.2.1, hz.2.2, hz1⟩
  und := Tryz.underlying40
  pos := by decide
  len := fun _ => rfl
  one := fun x v h => by simp at h; rw [h]; rfl
def KZ : Kd Int where
  T := 2
  S := 47
  k := 1
  bt := 8
  enc := fun b => [.int .i64 b]
  info := by
    obtain ⟨i, hi, hz⟩ := Option.map_eq_some_iff.1 infoI6
    simp only [Prod.mk.injEq] at hz
    obtain ⟨z, hz0, hz1⟩ := Option.map_eq_some_iff.1 hz.1
    exact ⟨i, z, hi, hz0, hz.2.1, hz.2.2, hz1⟩
  und := Tryz.underlying47
  pos := by decide
  len := fun _ => rfl
  one := fun x v h => by simp at h; rw [h]; rfl
theorem came_us {H : Type} {enc : TypeId × Value → H} {W : World} {fuel : Nat} {a : Option Addr} {len cap : Nat} {d : DataW H} {p : List MemPlace} (h : DataW.trod enc Tryz.prog W 0 (fun _ => true) true fuel 40 (Value.slice a len cap).cells.toList = some (d, p)) :
    ∃ us, Sl KH W (.slice a len cap) us ∧ ∀ u ∈ us, u < 65536 := by
  obtain ⟨v, us, hcs, hs, hno, hw⟩ := came_rows KH (by kernel_rfl) (fun b _ => b < 65536) (fun fuel cs x h => by
    obtain ⟨n, e, _, hwf⟩ := DataW.trod_int Tryz.underlying44 h
    have hb : 0 ≤ n ∧ n ≤ 65535 := by simpa [Lit.wf, IntKind.min, IntKind.max, IntKind.signed, IntKind.bits] using hwf
    refine ⟨n.toNat, ?_, by omega⟩
    rw [e]
    show [Value.int .u16 n] = [Value.int .u16 ((n.toNat : Nat) : Int)]
    rw [show ((n.toNat : Nat) : Int) = n by omega]) h
  obtain rfl : v = .slice a len cap := by simpa [Value.cells] using hcs.symm
  refine ⟨us, hs, fun u hu => ?_⟩
  rcases hw with ⟨_, rfl⟩ | ⟨el, sp, _, _, h3⟩
  · cases hu
  · obtain ⟨i, hi⟩ := List.getElem?_of_mem hu
    obtain ⟨d, _, hd⟩ := h3 i u hi
    exact hd
theorem came_zs {H : Type} {enc : TypeId × Value → H} {W : World} {fuel : Nat} {a : Option Addr} {len cap : Nat} {d : DataW H} {p : List MemPlace} (h : DataW.trod enc Tryz.prog W 0 (fun _ => true) true fuel 47 (Value.slice a len cap).cells.toList = some (d, p)) :
    ∃ us, Sl KZ W (.slice a len cap) us ∧ ∀ u ∈ us, -9223372036854775808 ≤ u ∧ u ≤ 9223372036854775807 := by
  obtain ⟨v, us, hcs, hs, hno, hw⟩ := came_rows KZ (by kernel_rfl) (fun b _ => -9223372036854775808 ≤ b ∧ b ≤ 9223372036854775807) (fun fuel cs x h => by
    obtain ⟨n, e, _, hwf⟩ := DataW.trod_int Tryz.underlying2 h
    have hb : -9223372036854775808 ≤ n ∧ n ≤ 9223372036854775807 := by simpa [Lit.wf, IntKind.min, IntKind.max, IntKind.signed, IntKind.bits] using hwf
    exact ⟨n, by rw [e]; rfl, hb⟩) h
  obtain rfl : v = .slice a len cap := by simpa [Value.cells] using hcs.symm
  refine ⟨us, hs, fun u hu => ?_⟩
  rcases hw with ⟨_, rfl⟩ | ⟨el, sp, _, _, h3⟩
  · cases hu
  · obtain ⟨i, hi⟩ := List.getElem?_of_mem hu
    obtain ⟨d, _, hd⟩ := h3 i u hi
    exact hd
theorem came_ts {H : Type} {enc : TypeId × Value → H} {W : World} {fuel : Nat} {a : Option Addr} {len cap : Nat} {d : DataW H} {p : List MemPlace} (h : DataW.trod enc Tryz.prog W 0 (fun _ => true) true fuel 30 (Value.slice a len cap).cells.toList = some (d, p)) :
    ∃ ts, Sl KT W (.slice a len cap) ts ∧ ∀ t ∈ ts, Bs W (.slice t.a t.bs.length t.c) t.bs := by
  obtain ⟨v, ts, hcs, hs, hno, hw⟩ := came_rows KT (by kernel_rfl) (fun t _ => Bs W (.slice t.a t.bs.length t.c) t.bs) (fun fuel cs x h => by
    obtain ⟨v, bs, e, hb, _⟩ := came_bytes h
    have hB := hb
    obtain ⟨_, a, c, hv, _⟩ := hb
    refine ⟨⟨a, c, bs⟩, ?_, by rw [hv] at hB; exact hB⟩
    rw [e, hv]
    rfl) h
  obtain rfl : v = .slice a len cap := by simpa [Value.cells] using hcs.symm
  refine ⟨ts, hs, fun t ht => ?_⟩
  rcases hw with ⟨_, rfl⟩ | ⟨el, sp, _, _, h3⟩
  · cases ht
  · obtain ⟨i, hi⟩ := List.getElem?_of_mem ht
    obtain ⟨d, _, hd⟩ := h3 i t hi
    exact hd
end Go.Proofs.YtkmdegmpffgplaaGreatDoor
/- log XXXI: a row of payloads of which some came in; an Append of nothing; files of other names. -/
namespace Go.Proofs.YtkmdegmpffgplaaGreatDoor
open Go.RowKit Go.Maps Go.Sort Go.Shelf pk
set_option linter.unusedVariables false
set_option linter.unusedSimpArgs false
/-- a row of payloads, each in the first world's memory, or made since -/
structure PayI (w0 w : World) (B : Nat) (u : Value) (ps : List (List Nat)) : Prop where
  ex : ∃ ts : List TB, ts.map (·.bs) = ps ∧ Own KT w B u ts ∧ ∀ t ∈ ts, Bs w0 (.slice t.a t.bs.length t.c) t.bs ∨ (Bs w (.slice t.a t.bs.length t.c) t.bs ∧ SafeU w (.slice t.a t.bs.length t.c))
theorem payI_nil (w0 w : World) (B : Nat) : PayI w0 w B (.slice none 0 0) [] := ⟨[], rfl, own_nil KT _ _, fun t ht => by cases ht⟩
theorem PayI.step {w0 w w' : World} {B : Nat} {u : Value} {ps : List (List Nat)} (h : PayI w0 w B u ps) (k : Below w.heap.size w w') : PayI w0 w' B u ps := by
  obtain ⟨ts, h1, h2, h3⟩ := h.ex
  refine ⟨ts, h1, h2.step k, fun t ht => ?_⟩
  rcases h3 t ht with h4 | h4
  · exact Or.inl h4
  · exact Or.inr ⟨h4.1.step k, h4.2.kel (Kee.kel (Kee.bel k))⟩
theorem PayI.kl {w0 w w' : World} {B : Nat} {u : Value} {ps : List (List Nat)} (h : PayI w0 w B u ps) (k : Kel w w') : PayI w0 w' B u ps := by
  obtain ⟨ts, h1, h2, h3⟩ := h.ex
  refine ⟨ts, h1, h2.klT k, fun t ht => ?_⟩
  rcases h3 t ht with h4 | h4
  · exact Or.inl h4
  · exact Or.inr ⟨h4.1.kel h4.2.l k, h4.2.kel k⟩
theorem PayI.rws {w0 w : World} {B : Nat} {v : Value} {ps : List (List Nat)} (h : PayI w0 w B v ps) (k : Below w0.heap.size w0 w) : ∃ ts, ts.map (·.bs) = ps ∧ Rws w v ts := by
  obtain ⟨ts, h1, h2, h3⟩ := h.ex
  refine ⟨ts, h1, h2.sl, fun t ht => ?_⟩
  rcases h3 t ht with h4 | h4
  · exact h4.step k
  · exact h4.1
theorem PayI.form {w0 w : World} {B : Nat} {u : Value} {ps : List (List Nat)} (h : PayI w0 w B u ps) : ∃ a c, u = .slice a ps.length c ∧ ps.length ≤ c ∧ c ≤ 9223372036854775807 := by
  obtain ⟨ts, h1, h2, _⟩ := h.ex
  obtain ⟨a, c, e, e1, e2, _⟩ := h2.sl
  rw [← h1, List.length_map]
  exact ⟨a, c, e, e1, e2⟩
/-- append(want, p) -/
theorem appWantI {w : World} {ops : Array Oper} {rest : List Oper} {o : Oper} {a : Act} {Q : Exit → Act → World → Prop} (hgd : o.guard = none) (s x : Operand)
    (ho : o.op = .call { callee := .builtin .append, args := #[s, x], argTypes := #[30, 30] })
    (w0 : World) (B : Nat) (ps : List (List Nat)) (v : Value) (pa : Option Addr) (L c : Nat) (bs : List Nat) (hs : a.eval s = v) (hx : a.eval x = .slice (some ⟨w.heap.size, 0, none⟩) 1 1)
    (hp : PayI w0 w B v ps) (hb : Bs w0 (.slice pa L c) bs ∨ (Bs w (.slice pa L c) bs ∧ SafeU w (.slice pa L c))) (hB : B ≤ w.heap.size) (hl : ps.length ≤ 1000000)
    (h : ∀ v' w', PayI w0 w' B v' (ps ++ [bs]) → Below B w w' → KeP w w' → wpList Tryz.prog ops Q rest (a.put o.dst v') w') :
    wpList Tryz.prog ops Q (o :: rest) a (w.alloc (.cells #[.slice pa L c] 22)) := by
  obtain ⟨ts, h1, h2, h3⟩ := hp.ex
  have l1 : ts.length = ps.length := by have := congrArg List.length h1; simpa using this
  have hL : L = bs.length := by
    rcases hb with hb | hb
    · exact hb.len.1
    · exact hb.1.len.1
  obtain rfl := hL
  refine appOneG (K := KT) hgd s x ho B ts v ⟨pa, c, bs⟩ hs hx h2 hB (by show (ts.length + 1) * 24 ≤ _; omega) (by omega) _ rfl (fun v' w' o' b' gr => ?_)
  have bA : Below w.heap.size w (w.alloc (.cells #[.slice pa bs.length c] 22)) := (Below.refl _ _).alloc (Nat.le_refl _) _
  have h2' := h2.alloc (.cells #[.slice pa bs.length c] 22)
  have HK : ∀ u cs, Bs w u cs → SafeU w u → Bs w' u cs ∧ SafeU w' u := fun u cs g1 g2 =>
    have g3 := g1.step bA
    have g4 := g2.kel (Kee.kel (Kee.bel bA))
    ⟨bs_grown g3 g4 h2' gr, g4.grown h2' gr⟩
  have HK2 : ∀ u cs, (Bs w0 u cs ∨ (Bs w u cs ∧ SafeU w u)) → (Bs w0 u cs ∨ (Bs w' u cs ∧ SafeU w' u)) := fun u cs g => by
    rcases g with g | g
    · exact Or.inl g
    · exact Or.inr (HK u cs g.1 g.2)
  refine h v' w' ⟨ts ++ [⟨pa, c, bs⟩], by rw [List.map_append, h1]; rfl, o', fun t ht => ?_⟩ b' ((KeP.bel bA).trans (KeP.grown h2' gr))
  rcases List.mem_append.1 ht with ht | ht
  · exact HK2 _ _ (h3 t ht)
  · rw [List.mem_singleton] at ht
    subst ht
    exact HK2 _ _ hb
set_option maxRecDepth 100000 in
set_option maxHeartbeats 1000000 in
/-- an Append of nothing -/
theorem append_form (w : World) (lp : Nat) (a : Option Addr) (c : Nat) : Calls Tryz.prog 9 #[.pointer (some ⟨lp, 0, none⟩), .slice a 0 c] w fun r w' => r = .returned (.tuple #[.int .i64 0, .int .i64 3]) ∧ w' = w := by
  go_enter Tryz.func9, Tryz.ntmps9
  go_wp2_with fail
  refine bodyPost_ret (v := .tuple #[.int .i64 0, .int .i64 3]) (by simp [results, Tryz.results9, go_sem]) rfl ?_
  exact ⟨rfl, rfl⟩
theorem conv_1 (w : World) (x : Value) : (convert 22 22 (.slice (some ⟨w.heap.size, 0, none⟩) 1 1)).run Tryz.prog (w.alloc (.cells #[x] 5)) = .ok (.slice (some ⟨w.heap.size, 0, none⟩) 1 1) (w.alloc (.cells #[x] 5 (1, 2))) :=
  Go.Lib.run_convert_bytes_const w 22 5 #[x] 1 1 Tryz.underlying22 Tryz.underlying5
theorem bs_1 (w : World) (c : Nat) (h : c < 256) : Bs (w.alloc (.cells #[.int .u8 (c : Int)] 5 (1, 2))) (.slice (some ⟨w.heap.size, 0, none⟩) 1 1) [c] ∧ Safe (w.alloc (.cells #[.int .u8 (c : Int)] 5 (1, 2))) (.slice (some ⟨w.heap.size, 0, none⟩) 1 1) := by
  have hb : (w.alloc (.cells #[.int .u8 (c : Int)] 5 (1, 2))).heap[w.heap.size]? = some (.cells #[.int .u8 (c : Int)] 5 (1, 2)) := Go.heap_alloc_new w _
  have hby : By [c] := fun x hx => by
    have e : x = c := by simpa using hx
    rw [e]
    exact h
  refine ⟨⟨hby, _, _, rfl, by simp, by omega, fun e => (by cases e), fun _ => ⟨w.heap.size, 0, rfl, by simp, fun k hk => ?_⟩⟩, fun b off n c' e => ?_⟩
  · have : k = 0 := by simpa using hk
    subst this
    rw [cell_of_row _ _ _ _ _ _ hb]
    rfl
  · cases e
    exact ⟨_, _, _, hb, by unfold Dt; decide⟩
/-- the names of the two other files -/
def nmD : List UInt8 := [100, 97, 116, 97]
def nmL : List UInt8 := [108, 49]
theorem nmS_neD (n : Nat) : nmS n ≠ nmD := fun h => by have := congrArg List.length h; rw [nmS_len] at this; cases this
theorem nmS_neL (n : Nat) : nmS n ≠ nmL := fun h => by have := congrArg List.length h; rw [nmS_len] at this; cases this
/-- two other files -/
def fs2 (xs : List Nat) : FS := [(nmD, parts xs, 0), (nmL, parts [120], 0)]
theorem apd_two (xs : List Nat) : apd (apd [] nmD (parts xs)) nmL (parts [120]) = fs2 xs := rfl
theorem dst_two {w : World} {B p m R o : Nat} {xs : List Nat} (h : DA w B p m ⟨R, o, 0, true, none, fs2 xs⟩) (hp : PtB B w) (ht : TbB B w) (per : Nat) (h1 : 1 ≤ per ∧ per ≤ 1000) : Dst w B p m R o (fs2 xs) per 0 [] :=
  ⟨h, hp, ht, ⟨fun i hi => (by simp at hi), fun k _ hk => by
    rcases List.mem_cons.1 (show nmS k ∈ [nmD, nmL] from hk) with e | e
    · exact absurd e (nmS_neD k)
    · exact absurd (List.mem_singleton.1 e) (nmS_neL k), fun l hl => by
    rcases List.mem_cons.1 (show l ∈ [nmD, nmL] from hl) with e | e
    · exact Or.inl e
    · exact Or.inr (Or.inl (List.mem_singleton.1 e))⟩, trivial, fun r hr => (by cases hr), h1, by simp, fun _ => rfl⟩
theorem lk_afs_D (fs : FS) (per lo : Nat) (rs : List Rc) (r : Rc) : lk (afs fs per lo rs r) nmD = lk fs nmD := lk_rfs_other _ _ _ _ (fun e => nmS_neD _ e.symm)
end Go.Proofs.YtkmdegmpffgplaaGreatDoor
