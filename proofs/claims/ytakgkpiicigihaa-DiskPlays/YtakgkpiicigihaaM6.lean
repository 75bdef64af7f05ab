/- disk LX: both disks side by side: what each call answers. -/
import Derived.Test.YtakgkpiicigihaaM5
import Derived.Test.YtakgkpiicigihaaM4
import Derived.Test.YtakgkpiicigihaaDmta
import Derived.Test.YtakgkpiicigihaaDmtb
import Derived.Test.YtakgkpiicigihaaDmtc
import Derived.BigQuiet
namespace Go.Proofs.Ytakgkpiicigihaa
open Go.RowKit Go.Maps Go.Sort Go.Shelf pk
set_option linter.unusedVariables false
set_option linter.unusedSimpArgs false

theorem DA.sy {w : World} {B p m : Nat} {x : AD} (h : DA w B p m x) : ∀ t ∈ x.fs, t.2.2 ≤ t.2.1.length := by
  obtain ⟨es, u, hD, hab, _⟩ := h
  intro t ht
  rw [← hab] at ht
  obtain ⟨e, he, rfl⟩ := List.mem_map.1 ht
  exact (hD.fil e he).sy
theorem DA.fits {w : World} {B p m : Nat} {x : AD} (h : DA w B p m x) : totA x.fs ≤ x.room ∧ x.fs.length ≤ 64 := by
  obtain ⟨es, u, hD, hab, _⟩ := h
  have h1 := hD.fits
  refine ⟨by rw [← hab, ← tot_ab]; exact h1.1, ?_⟩
  rw [← hab]
  unfold ab
  rw [List.length_map]
  exact h1.2.2
theorem DA.undb {w : World} {B p m : Nat} {x : AD} (h : DA w B p m x) {o : POp} (ho : x.und = some o) : o.k ≤ 4 ∧ (o.k = 2 → o.n ≤ 9223372036854775807) ∧ (o.k = 3 → o.b.length ≤ 16) := by
  obtain ⟨es, u, hD, hab, hu, _⟩ := h
  rw [ho] at hu
  rcases hu with ⟨h1, _⟩ | ⟨h1, hn, _⟩ | ⟨h1, hn, _⟩ | ⟨h1, _⟩
  · exact ⟨by omega, fun e => by omega, fun e => by omega⟩
  · exact ⟨by omega, fun _ => hn, fun e => by omega⟩
  · refine ⟨by omega, fun e => by omega, fun _ => ?_⟩
    unfold isNm at hn
    simp at hn
    exact hn.1.2
  · exact ⟨by omega, fun e => by omega, fun e => by omega⟩
/-- all but rows of bytes is as it was -/
structure K8 (w w' : World) : Prop where
  os : w'.os = w.os
  tape : w'.tape = w.tape
  output : w'.output = w.output
  size : w.heap.size ≤ w'.heap.size
  blk : ∀ (i : Nat) (o : Obj), w.heap[i]? = some o → (∀ cs z, o = .cells cs 5 z → False) → w'.heap[i]? = some o
theorem K8.refl (w : World) : K8 w w := ⟨rfl, rfl, rfl, Nat.le_refl _, fun _ _ h _ => h⟩
theorem K8.trans {a b c : World} (h : K8 a b) (k : K8 b c) : K8 a c := ⟨k.os.trans h.os, k.tape.trans h.tape, k.output.trans h.output, Nat.le_trans h.size k.size, fun i o e hT => k.blk i o (h.blk i o e hT) hT⟩
theorem K8.bel {w w' : World} (h : Below w.heap.size w w') : K8 w w' := ⟨h.os, h.tape, h.output, h.size, fun i o e _ => (h.block i (hlt_of e)).trans e⟩
theorem VA.k8 {w w' : World} {p : Nat} {cs : List Value} {T : TypeId} (h : VA w p cs T) (k : K8 w w') (hT : T ≠ 5) : VA w' p cs T := ⟨k.blk _ _ h.blk (fun _ _ e => by cases e; exact hT rfl)⟩
theorem DA.k8 {w w' : World} {B p m : Nat} {x : AD} (h : DA w B p m x) (k : K8 w w') : DA w' B p m x := by
  obtain ⟨es, u, hD, hab, hu, hun⟩ := h
  refine ⟨es, u, ⟨hD.va.k8 k (by decide), hD.mp.blk ?_, fun e he => ?_, hD.ap, hD.lo, hD.fits⟩, hab, ?_, hun⟩
  · obtain ⟨ms, c, hm⟩ := map_blk hD.mp
    exact (k.blk _ _ hm (fun _ _ e => by cases e)).trans hm.symm
  · have f := hD.fil e he
    refine ⟨f.blk.k8 k (by decide), f.row.blk (fun g hg => ?_), f.lo, f.sy, f.byte, f.nm⟩
    obtain ⟨cs, hc⟩ := row_blk f.row hg
    exact (k.blk _ _ hc (fun _ _ e => by cases e)).trans hc.symm
  · cases hq : x.und with
    | none => rw [hq] at hu; exact hu
    | some o =>
      rw [hq] at hu
      rcases hu with ⟨h1, Bf, e, h2, h3, h4⟩ | ⟨h1, hn, Bf, Bn, e, h2, h3, h4, h5⟩ | ⟨h1, hn, Bd, Ba, Bf, Bb, e, h2, h3, h4, h5, h6, h7⟩ | ⟨h1, Bd, Ba, e, h2, h3, h4, h5⟩
      · exact .inl ⟨h1, Bf, e, h2, h3, h4.k8 k (by decide)⟩
      · exact .inr (.inl ⟨h1, hn, Bf, Bn, e, h2, h3, h4.k8 k (by decide), h5.k8 k (by decide)⟩)
      · exact .inr (.inr (.inl ⟨h1, hn, Bd, Ba, Bf, Bb, e, h2, h3, h4.k8 k (by decide), h5.k8 k (by decide), h6.k8 k (by decide), h7.k8 k (by decide)⟩))
      · exact .inr (.inr (.inr ⟨h1, Bd, Ba, e, h2, h3, h4.k8 k (by decide), h5.k8 k (by decide)⟩))
/-- both disks in memory, and they say the same -/
structure Duo (w : World) (B p m q : Nat) (x : AD) (y : RK) : Prop where
  da : DA w B p m x
  rd : ∃ fv, RD w B q fv y
  rel : Rel x (rs y)
  left : x.left ≤ 9223372036854775807
theorem Duo.step {w w' : World} {B p m q : Nat} {x : AD} {y : RK} (h : Duo w B p m q x y) (k : Below w.heap.size w w') : Duo w' B p m q x y := ⟨h.da.step k, h.rd.elim (fun fv hr => ⟨fv, hr.step k⟩), h.rel, h.left⟩
/-- no disk on either side, or one on both -/
def St (w : World) (B : Nat) (P Q : Value) (N : Nat) : Prop := (P = .pointer none ∧ Q = .pointer none ∧ B ≤ w.heap.size) ∨ ∃ p m q x y, P = ptr p ∧ Q = ptr q ∧ Duo w B p m q x y ∧ x.ops ≤ N
theorem St.step {w w' : World} {B N : Nat} {P Q : Value} (h : St w B P Q N) (k : Below w.heap.size w w') : St w' B P Q N := by
  rcases h with ⟨h1, h2, h3⟩ | ⟨p, m, q, x, y, h1, h2, h3, h4⟩
  · exact .inl ⟨h1, h2, Nat.le_trans h3 k.size⟩
  · exact .inr ⟨p, m, q, x, y, h1, h2, h3.step k, h4⟩
theorem St.lt {w : World} {B N : Nat} {P Q : Value} (h : St w B P Q N) : B ≤ w.heap.size := by
  rcases h with ⟨h1, h2, h3⟩ | ⟨p, m, q, x, y, h1, h2, h3, h4⟩
  · exact h3
  · exact h3.da.lt
theorem St.mono {w : World} {B N M : Nat} {P Q : Value} (h : St w B P Q N) (k : N ≤ M) : St w B P Q M := by
  rcases h with h | ⟨p, m, q, x, y, h1, h2, h3, h4⟩
  · exact .inl h
  · exact .inr ⟨p, m, q, x, y, h1, h2, h3, by omega⟩
/-- what lies below B is as it was, and so are variables of the law's own type -/
structure BK (B : Nat) (w w' : World) : Prop where
  bel : Below B w w'
  op : ∀ p cs, VA w p cs 36 → VA w' p cs 36
theorem BK.b {w w' : World} {B : Nat} (b : Below w.heap.size w w') (hB : B ≤ w.heap.size) : BK B w w' := ⟨b.mono hB, fun p cs v => v.step b⟩
theorem BK.l {w w' : World} {B p m : Nat} {x : AD} (h : Lv w w' B p m x) : BK B w w' := ⟨h.2.2, fun p cs v => v.kee h.2.1 (by unfold Dt; decide)⟩
theorem BK.r {w w' : World} {B q : Nat} {y : RK} (h : RLv w w' B q y) : BK B w w' := ⟨h.2.2, fun p cs v => v.ker h.2.1 (by unfold Rt; decide)⟩
theorem BK.trans {a b c : World} {B : Nat} (h : BK B a b) (k : BK B b c) : BK B a c := ⟨h.bel.trans k.bel, fun p cs v => k.op p cs (h.op p cs v)⟩
/-- the document's call behind the program's: it answers that, too -/
def Nxt (w : World) (B : Nat) (P Q : Value) (N G : Nat) (A : Array Value) (c : Int) : Prop := ∀ w1, Below w.heap.size w w1 → Calls Try.prog G A w1 fun r w2 => r = .returned (.int .i64 c) ∧ St w2 B P Q N ∧ BK B w1 w2
theorem duo_next {w w1 w2 : World} {B p m q : Nat} {x' : AD} {y' : RK} (hd : DA w B p m x') (hk : Below w.heap.size w w1) (h2 : RLv w1 w2 B q y') (hr : Rel x' (rs y')) (hl : x'.left ≤ 9223372036854775807) : Duo w2 B p m q x' y' := ⟨(hd.step hk).ker h2.2.1, h2.1, hr, hl⟩
theorem oper_ops (x : AD) (o : POp) : (oper x o).2.ops ≤ x.ops + 1 ∧ (oper x o).2.left ≤ x.left := by
  unfold oper
  split
  · exact ⟨by simp, by simp⟩
  · split
    · exact ⟨by simp, by simp⟩
    · split
      · exact ⟨by simp, by simp⟩
      · split
        · exact ⟨by simp [begA], by simp [begA]⟩
        · exact ⟨by simp [begA], by simp [begA]⟩
theorem apnd_ops (x : AD) (l : List UInt8) (bs : List Nat) : (apnd x l bs).2.ops ≤ x.ops + 1 ∧ (apnd x l bs).2.left ≤ x.left := by
  unfold apnd
  split
  · exact ⟨by simp, by simp⟩
  · split
    · exact ⟨by simp, by simp⟩
    · split
      · exact ⟨by simp, by simp⟩
      · exact ⟨by simp [begA], by simp [begA]⟩
/-- an operation other than Append, on both sides -/
theorem op_both {w : World} {B p m q : Nat} {x : AD} {y : RK} (h : Duo w B p m q x y) (o : POp) (hk : 1 ≤ o.k ∧ o.k ≤ 4) (N : Nat) (hN : x.ops ≤ N) (G : Nat) (A : Array Value)
    (hG : ∀ w1 fv, RD w1 B q fv y → Calls Try.prog G A w1 fun r w' => ∃ y', r = .returned (.int .i64 ((rop o (rs y)).1 : Nat)) ∧ rs y' = (rop o (rs y)).2 ∧ RLv w1 w' B q y')
    {w' : World} (hl : Lv w w' B p m (oper x o).2) : Nxt w' B (ptr p) (ptr q) (N + 1) G A ((oper x o).1 : Nat) := by
  intro w1 hb
  obtain ⟨fv, hr⟩ := h.rd
  have hr1 : RD w1 B q fv y := (hr.kee hl.2.1).step hb
  obtain ⟨e1, e2⟩ := h.rel.op h.da.sy o hk
  refine (hG w1 fv hr1).mono ?_
  rintro r w2 ⟨y', rfl, hy', hlv⟩
  have ho := oper_ops x o
  have hleft := h.left
  refine ⟨by rw [e1], .inr ⟨p, m, q, _, y', rfl, rfl, duo_next hl.1 hb hlv (by rw [hy']; exact e2) (by omega), by omega⟩, BK.r hlv⟩
theorem ops_eq {w : World} {B p m q : Nat} {x : AD} {y : RK} (h : Duo w B p m q x y) : y.ops = x.ops ∧ y.armed = x.left ∧ y.off = !x.on := ⟨h.rel.ops, h.rel.left, h.rel.off⟩
theorem nil_next {w w' w1 w2 : World} {B N : Nat} (hB : B ≤ w.heap.size) (b : Below w.heap.size w w') (hb : Below w'.heap.size w' w1) (b2 : Below w1.heap.size w1 w2) : St w2 B (.pointer none) (.pointer none) N ∧ BK B w1 w2 :=
  ⟨.inl ⟨rfl, rfl, by have := b.size; have := hb.size; have := b2.size; omega⟩, BK.b b2 (by have := b.size; have := hb.size; omega)⟩
theorem any_next {w w' w1 w2 : World} {B N : Nat} {P Q : Value} (h : St w B P Q N) (b : Below w.heap.size w w') (hb : Below w'.heap.size w' w1) (b2 : Below w1.heap.size w1 w2) : St w2 B P Q (N + 1) ∧ BK B w1 w2 :=
  ⟨(((h.step b).step hb).step b2).mono (by omega), BK.b b2 (Nat.le_trans h.lt (by have := b.size; have := hb.size; omega))⟩
theorem bSync (w : World) (B N : Nat) (P Q : Value) (h : St w B P Q N) (hN : N ≤ 1000000) (s : ByteArray) (hs : s.size ≤ 9223372036854775807) :
    Calls Try.prog 16 #[P, .string s] w fun r w' => ∃ c : Int, r = .returned (.int .i64 c) ∧ BK B w w' ∧ Nxt w' B P Q (N + 1) 31 #[Q, .string s] c := by
  rcases h with ⟨rfl, rfl, hB⟩ | ⟨p, m, q, x, y, rfl, rfl, hD, ho⟩
  · cases hn : isNm s.data.toList with
    | false =>
      refine (sync_nilB w s hs hn).mono ?_
      rintro r w' ⟨rfl, b⟩
      exact ⟨1, rfl, BK.b b hB, fun w1 hb => (rsync_nilB w1 s hs hn).mono (fun r w2 ⟨e, b2⟩ => ⟨e, nil_next hB b hb b2⟩)⟩
    | true =>
      refine (sync_nil w s hs hn).mono ?_
      rintro r w' ⟨rfl, b⟩
      exact ⟨7, rfl, BK.b b hB, fun w1 hb => (rsync_nil w1 s hs hn).mono (fun r w2 ⟨e, b2⟩ => ⟨e, nil_next hB b hb b2⟩)⟩
  · obtain ⟨e1, e2, e3⟩ := ops_eq hD
    refine (sync_any w B p m x hD.da s hs (by omega) hD.left).mono ?_
    rintro r w' ⟨rfl, hl⟩
    exact ⟨_, rfl, BK.l hl, op_both hD ⟨1, s.data.toList, [], 0⟩ ⟨(by simp only; omega), (by simp only; omega)⟩ N ho _ _ (fun w1 fv hr => DocSync_any w1 B q fv y hr s hs (by omega) (by rw [e2]; exact hD.left)) hl⟩
theorem bRem (w : World) (B N : Nat) (P Q : Value) (h : St w B P Q N) (hN : N ≤ 1000000) (s : ByteArray) (hs : s.size ≤ 9223372036854775807) :
    Calls Try.prog 34 #[P, .string s] w fun r w' => ∃ c : Int, r = .returned (.int .i64 c) ∧ BK B w w' ∧ Nxt w' B P Q (N + 1) 35 #[Q, .string s] c := by
  rcases h with ⟨rfl, rfl, hB⟩ | ⟨p, m, q, x, y, rfl, rfl, hD, ho⟩
  · cases hn : isNm s.data.toList with
    | false =>
      refine (rem_nilB w s hs hn).mono ?_
      rintro r w' ⟨rfl, b⟩
      exact ⟨1, rfl, BK.b b hB, fun w1 hb => (rrem_nilB w1 s hs hn).mono (fun r w2 ⟨e, b2⟩ => ⟨e, nil_next hB b hb b2⟩)⟩
    | true =>
      refine (rem_nil w s hs hn).mono ?_
      rintro r w' ⟨rfl, b⟩
      exact ⟨7, rfl, BK.b b hB, fun w1 hb => (rrem_nil w1 s hs hn).mono (fun r w2 ⟨e, b2⟩ => ⟨e, nil_next hB b hb b2⟩)⟩
  · obtain ⟨e1, e2, e3⟩ := ops_eq hD
    refine (remove_any w B p m x hD.da s hs (by omega) hD.left).mono ?_
    rintro r w' ⟨rfl, hl⟩
    exact ⟨_, rfl, BK.l hl, op_both hD ⟨4, s.data.toList, [], 0⟩ ⟨(by simp only; omega), (by simp only; omega)⟩ N ho _ _ (fun w1 fv hr => DocRemove_any w1 B q fv y hr s hs (by omega) (by rw [e2]; exact hD.left)) hl⟩
theorem bTrunc (w : World) (B N : Nat) (P Q : Value) (h : St w B P Q N) (hN : N ≤ 1000000) (s : ByteArray) (hs : s.size ≤ 9223372036854775807) (n : Int) (hn1 : -9223372036854775808 ≤ n) (hn2 : n ≤ 9223372036854775807) :
    Calls Try.prog 24 #[P, .string s, .int .i64 n] w fun r w' => ∃ c : Int, r = .returned (.int .i64 c) ∧ BK B w w' ∧ Nxt w' B P Q (N + 1) 32 #[Q, .string s, .int .i64 n] c := by
  by_cases h0 : n < 0
  · refine (trunc_negv w P s n h0 hn1).mono ?_
    rintro r w' ⟨rfl, b⟩
    exact ⟨1, rfl, BK.b b h.lt, fun w1 hb => (rtrunc_negv w1 Q s hs n h0 hn1).mono (fun r w2 ⟨e, b2⟩ => ⟨e, any_next h b hb b2⟩)⟩
  have h00 : 0 ≤ n := by omega
  obtain ⟨k, rfl⟩ : ∃ k : Nat, n = (k : Int) := ⟨n.toNat, by omega⟩
  rcases h with ⟨rfl, rfl, hB⟩ | ⟨p, m, q, x, y, rfl, rfl, hD, ho⟩
  · cases hn : isNm s.data.toList with
    | false =>
      refine (trunc_nilB w s hs _ h00 hn).mono ?_
      rintro r w' ⟨rfl, b⟩
      exact ⟨1, rfl, BK.b b hB, fun w1 hb => (rtrunc_nilB w1 s hs _ h00 hn).mono (fun r w2 ⟨e, b2⟩ => ⟨e, nil_next hB b hb b2⟩)⟩
    | true =>
      refine (trunc_nil w s hs _ h00 hn).mono ?_
      rintro r w' ⟨rfl, b⟩
      exact ⟨7, rfl, BK.b b hB, fun w1 hb => (rtrunc_nil w1 s hs _ h00 hn).mono (fun r w2 ⟨e, b2⟩ => ⟨e, nil_next hB b hb b2⟩)⟩
  · obtain ⟨e1, e2, e3⟩ := ops_eq hD
    refine (trunc_any w B p m x hD.da s hs k (by omega) (by omega) hD.left).mono ?_
    rintro r w' ⟨rfl, hl⟩
    exact ⟨_, rfl, BK.l hl, op_both hD ⟨2, s.data.toList, [], k⟩ ⟨(by simp only; omega), (by simp only; omega)⟩ N ho _ _ (fun w1 fv hr => DocTruncate_any w1 B q fv y hr s hs k (by omega) (by omega) (by rw [e2]; exact hD.left)) hl⟩
theorem bRen (w : World) (B N : Nat) (P Q : Value) (h : St w B P Q N) (hN : N ≤ 1000000) (s : ByteArray) (hs : s.size ≤ 9223372036854775807) (u : ByteArray) (hu : u.size ≤ 9223372036854775807) :
    Calls Try.prog 22 #[P, .string s, .string u] w fun r w' => ∃ c : Int, r = .returned (.int .i64 c) ∧ BK B w w' ∧ Nxt w' B P Q (N + 1) 33 #[Q, .string s, .string u] c := by
  rcases h with ⟨rfl, rfl, hB⟩ | ⟨p, m, q, x, y, rfl, rfl, hD, ho⟩
  · cases hk : isNm u.data.toList with
    | false =>
      cases hn : isNm s.data.toList with
      | false =>
        refine (ren_nilU w s hs u hu hk).mono ?_
        rintro r w' ⟨rfl, b⟩
        exact ⟨1, rfl, BK.b b hB, fun w1 hb => (rren_nilB w1 s hs u hu hn).mono (fun r w2 ⟨e, b2⟩ => ⟨e, nil_next hB b hb b2⟩)⟩
      | true =>
        refine (ren_nilU w s hs u hu hk).mono ?_
        rintro r w' ⟨rfl, b⟩
        exact ⟨1, rfl, BK.b b hB, fun w1 hb => (rren_nilU w1 s hs u hu hn hk).mono (fun r w2 ⟨e, b2⟩ => ⟨e, nil_next hB b hb b2⟩)⟩
    | true =>
      cases hn : isNm s.data.toList with
      | false =>
        refine (ren_nilB w s hs u hu hk hn).mono ?_
        rintro r w' ⟨rfl, b⟩
        exact ⟨1, rfl, BK.b b hB, fun w1 hb => (rren_nilB w1 s hs u hu hn).mono (fun r w2 ⟨e, b2⟩ => ⟨e, nil_next hB b hb b2⟩)⟩
      | true =>
        refine (ren_nil w s hs u hu hk hn).mono ?_
        rintro r w' ⟨rfl, b⟩
        exact ⟨7, rfl, BK.b b hB, fun w1 hb => (rren_nil w1 s hs u hu hn hk).mono (fun r w2 ⟨e, b2⟩ => ⟨e, nil_next hB b hb b2⟩)⟩
  · obtain ⟨e1, e2, e3⟩ := ops_eq hD
    refine (rename_any w B p m x hD.da s hs u hu (by omega) hD.left).mono ?_
    rintro r w' ⟨rfl, hl⟩
    exact ⟨_, rfl, BK.l hl, op_both hD ⟨3, s.data.toList, u.data.toList, 0⟩ ⟨(by simp only; omega), (by simp only; omega)⟩ N ho _ _ (fun w1 fv hr => DocRename_any w1 B q fv y hr s hs u hu (by omega) (by rw [e2]; exact hD.left)) hl⟩
theorem bArm (w : World) (B N : Nat) (P Q : Value) (h : St w B P Q N) (hN : N ≤ 1000000) (n : Int) (hn1 : -9223372036854775808 ≤ n) (hn2 : n ≤ 9223372036854775807) :
    Calls Try.prog 18 #[P, .int .i64 n] w fun r w' => ∃ c : Int, r = .returned (.int .i64 c) ∧ BK B w w' ∧ Nxt w' B P Q (N + 1) 36 #[Q, .int .i64 n] c := by
  by_cases h0 : n < 0
  · refine (arm_negv w P n h0 hn1).mono ?_
    rintro r w' ⟨rfl, b⟩
    exact ⟨1, rfl, BK.b b h.lt, fun w1 hb => (DocArm_neg w1 Q n h0 hn1).mono (fun r w2 ⟨e, b2⟩ => ⟨e, any_next h b hb (by rw [b2]; exact Below.refl _ _)⟩)⟩
  have h00 : 0 ≤ n := by omega
  obtain ⟨k, rfl⟩ : ∃ k : Nat, n = (k : Int) := ⟨n.toNat, by omega⟩
  rcases h with ⟨rfl, rfl, hB⟩ | ⟨p, m, q, x, y, rfl, rfl, hD, ho⟩
  · refine (arm_nil w _ h00).mono ?_
    rintro r w' ⟨rfl, b⟩
    exact ⟨7, rfl, BK.b b hB, fun w1 hb => (rarm_nil w1 _ h00).mono (fun r w2 ⟨e, b2⟩ => ⟨e, nil_next hB b hb b2⟩)⟩
  · obtain ⟨e1, e2, e3⟩ := ops_eq hD
    refine (arm_any w B p m x hD.da k (by omega)).mono ?_
    rintro r w' ⟨rfl, hl⟩
    refine ⟨_, rfl, BK.l hl, fun w1 hb => ?_⟩
    obtain ⟨fv, hr⟩ := hD.rd
    have hr1 : RD w1 B q fv y := (hr.kee hl.2.1).step hb
    cases hon : x.on with
    | false =>
      rw [hon] at e3
      rw [if_neg (by rw [hon]; simp)] at hl
      refine (DocArm_off w1 B q fv y hr1 k (by omega) e3).mono ?_
      rintro r w2 ⟨rfl, rfl⟩
      exact ⟨rfl, .inr ⟨p, m, q, x, y, rfl, rfl, ⟨hl.1.step hb, ⟨fv, hr1⟩, hD.rel, hD.left⟩, by omega⟩, BK.b (Below.refl _ _) hr1.lt⟩
    | true =>
      rw [hon] at e3
      rw [if_pos hon] at hl
      refine (DocArm_on w1 B q fv y hr1 k (by omega) e3).mono ?_
      rintro r w2 ⟨rfl, hlv⟩
      exact ⟨rfl, .inr ⟨p, m, q, { x with left := k }, { y with armed := k }, rfl, rfl, duo_next hl.1 hb hlv (hD.rel.arm hon k) (by show k ≤ _; omega), by show x.ops ≤ _; omega⟩, BK.r hlv⟩
set_option maxRecDepth 100000 in
theorem rrestart_on (w : World) (B q : Nat) (fv : Value) (y : RK) (h : RD w B q fv y) (hof : y.off = false) (dn : Bool) (a : Option Addr) (n c : Nat) :
    Calls Try.prog 37 #[ptr q, .agg #[.bool dn, .slice a n c]] w fun r w' => r = .returned (.int .i64 14) ∧ Below w.heap.size w w' := by
  have y2 := h.va.cell 2 (v := .bool y.off) rfl
  rw [hof] at y2
  have hp : (ptr q) = .pointer (some ⟨q, 0, none⟩) := rfl
  rw [hp]
  have hql := h.va.lt
  clear h
  go_enter Try.func37, Try.ntmps37
  go_wp2_with fail
  go_ret
  exact ⟨rfl, (Below.refl _ _).alloc (Nat.le_refl _) _⟩
theorem rrestart_any (w : World) (B q : Nat) (fv : Value) (y : RK) (h : RD w B q fv y) (hof : y.off = true) (dn : Bool) (ka : Option Addr) (kc L : Nat) (ks : List Bool) (hk : Bl w (.slice ka L kc) ks) (hks : 0 < L → ∀ b off n c, Value.slice ka L kc = .slice (some ⟨b, off, none⟩) n c → b < B) (hkl : L ≤ 140737488355328)
    (hu : dn = true → y.last ≠ 0 → y.last ≤ 4 ∧ (y.last = 2 → y.n ≤ 9223372036854775807) ∧ (y.last = 3 → y.b.length ≤ 16) ∧ (lkA (ra y.fs) y.a).isSome = true) :
    Calls Try.prog 37 #[ptr q, .agg #[.bool dn, .slice ka L kc]] w fun r w' => r = .returned (.int .i64 0) ∧ ∃ y', rs y' = rres (rs y) dn ks ∧ RLv w w' B q y' := by
  cases hdn : dn with
  | false => have := rrestart_a w B q fv y h hof dn ka kc L ks hk hks hkl hu hdn; rw [hdn] at this; exact this
  | true =>
    by_cases hla : y.last = 0
    · have := rrestart_b w B q fv y h hof dn ka kc L ks hk hks hkl hu hdn hla; rw [hdn] at this; exact this
    · have := rrestart_c w B q fv y h hof dn ka kc L ks hk hks hkl hu hdn hla; rw [hdn] at this; exact this
theorem bRest (w : World) (B N : Nat) (P Q : Value) (h : St w B P Q N) (hN : N ≤ 1000000) (dn : Bool) (u : Value) (ks : List Bool) (hk : Bl w u ks) (hsf : Safe w u) (hkl : ks.length ≤ 140737488355328) (ka : Option Addr) (L kc : Nat) (hL : L = ks.length)
    (hd : ∀ w', Below B w w' → Bl w' (.slice ka L kc) ks) (hdb : 0 < L → ∀ b off n c, Value.slice ka L kc = .slice (some ⟨b, off, none⟩) n c → b < B) :
    Calls Try.prog 19 #[P, .agg #[.bool dn, u]] w fun r w' => ∃ c : Int, r = .returned (.int .i64 c) ∧ BK B w w' ∧ Nxt w' B P Q (N + 1) 37 #[Q, .agg #[.bool dn, .slice ka L kc]] c := by
  obtain ⟨ua, uc, hu, _⟩ := hk.form
  rcases h with ⟨rfl, rfl, hB⟩ | ⟨p, m, q, x, y, rfl, rfl, hD, ho⟩
  · rw [hu]
    refine (restart_nil w dn ua ks.length uc).mono ?_
    rintro r w' ⟨rfl, b⟩
    exact ⟨7, rfl, BK.b b hB, fun w1 hb => (rrestart_nil w1 dn ka L kc).mono (fun r w2 ⟨e, b2⟩ => ⟨e, nil_next hB b hb b2⟩)⟩
  · obtain ⟨e1, e2, e3⟩ := ops_eq hD
    cases hon : x.on with
    | true =>
      rw [hon] at e3
      rw [hu]
      refine (restart_on w B p m x hD.da dn ua ks.length uc hon).mono ?_
      rintro r w' ⟨rfl, hl⟩
      refine ⟨14, rfl, BK.l hl, fun w1 hb => ?_⟩
      obtain ⟨fv, hr⟩ := hD.rd
      have hr1 : RD w1 B q fv y := (hr.kee hl.2.1).step hb
      refine (rrestart_on w1 B q fv y hr1 e3 dn ka L kc).mono ?_
      rintro r w2 ⟨rfl, b2⟩
      exact ⟨rfl, .inr ⟨p, m, q, x, y, rfl, rfl, ⟨(hl.1.step hb).step b2, ⟨fv, hr1.step b2⟩, hD.rel, hD.left⟩, by omega⟩, BK.b b2 hr1.lt⟩
    | false =>
      rw [hon] at e3
      refine (restart_off w B p m x hD.da dn u ks hk hkl hsf hon).mono ?_
      rintro r w' ⟨rfl, ns, hp, ho2, hl⟩
      refine ⟨0, rfl, BK.l hl, fun w1 hb => ?_⟩
      obtain ⟨fv, hr⟩ := hD.rd
      have hr1 : RD w1 B q fv y := (hr.kee hl.2.1).step hb
      have hb1 : Below B w w1 := hl.2.2.trans (hb.mono hl.1.lt)
      have hnd : (nms (doUnd x dn)).Nodup := by
        have h1 := hl.1.nodup
        have h2 : nms (stl ks ns (doUnd x dn)).1 = nms (doUnd x dn) := nms_stl ks ns _
        rw [← h2]
        exact h1
      have hrel := hD.rel.rest hD.da.sy hon dn ks ns hnd hp ho2
      refine (rrestart_any w1 B q fv y hr1 e3 dn ka kc L ks (hd w1 hb1) hdb (by omega) ?_).mono ?_
      · intro hdn hla
        have hun := hD.rel.und
        cases hx : x.und with
        | none =>
          rw [hx] at hun
          exact absurd hun hla
        | some o =>
          rw [hx] at hun
          obtain ⟨h1, h2, h3, h4, h5, h6, h7⟩ := hun
          obtain ⟨g1, g2, g3⟩ := hD.da.undb hx
          have i1 : y.last = o.k := h1
          have i2 : y.a = o.a := h2
          have i3 : y.b = o.b := h3
          have i4 : y.n = o.n := h4
          refine ⟨by omega, fun e => by rw [i4]; exact g2 (by omega), fun e => by rw [i3]; exact g3 (by omega), ?_⟩
          rw [i2]
          have h8 : lkA (ra y.fs) o.a = (lk x.fs o.a).map cv := hD.rel.fnd o.a
          rw [h8]
          cases hq : lk x.fs o.a with
          | none => rw [hq] at h7; cases h7
          | some t => rfl
      · rintro r w2 ⟨rfl, y', hy', hlv⟩
        exact ⟨rfl, .inr ⟨p, m, q, _, y', rfl, rfl, duo_next hl.1 hb hlv (by rw [hy']; exact hrel) (by show x.left ≤ _; exact hD.left), by show x.ops ≤ _; omega⟩, BK.r hlv⟩
/-- Append: then what is read comes back, and is turned over, ahead of the document's call -/
theorem bApp (w0 w : World) (B N : Nat) (P Q : Value) (h : St w0 B P Q N) (hb0 : Below w0.heap.size w0 w) (hN : N ≤ 1000000) (s : ByteArray) (hs : s.size ≤ 9223372036854775807) (v : Value) (bs : List Nat) (hv : Bs w v bs) (hsf : Safe w v) (hl0 : bs.length ≤ 140737488351232) :
    Calls Try.prog 14 #[P, .string s, v] w fun r w' => ∃ c : Int, r = .returned (.int .i64 c) ∧ BK B w w' ∧ Kee w w' ∧ ∀ w1, Kee w0 w1 → K8 w' w1 → ∀ v', Bs w1 v' bs → Calls Try.prog 30 #[Q, .string s, v'] w1 fun r w2 => r = .returned (.int .i64 c) ∧ St w2 B P Q (N + 1) ∧ BK B w1 w2 := by
  have hB := Nat.le_trans h.lt hb0.size
  rcases h with ⟨rfl, rfl, hB0⟩ | ⟨p, m, q, x, y, rfl, rfl, hD, ho⟩
  · cases hn : isNm s.data.toList with
    | false =>
      refine (append_nilB w s hs v hn).mono ?_
      rintro r w' ⟨rfl, b⟩
      exact ⟨1, rfl, BK.b b hB, Kee.bel b, fun w1 k0 k8 v' hv' => (rappend_nilB w1 s hs v' hn).mono (fun r w2 ⟨e, b2⟩ => ⟨e, .inl ⟨rfl, rfl, by have := k0.size; have := b2.size; omega⟩, BK.b b2 (by have := k0.size; omega)⟩)⟩
    | true =>
      refine (append_nil w s hs v hn).mono ?_
      rintro r w' ⟨rfl, b⟩
      exact ⟨7, rfl, BK.b b hB, Kee.bel b, fun w1 k0 k8 v' hv' => (rappend_nil w1 s hs v' hn).mono (fun r w2 ⟨e, b2⟩ => ⟨e, .inl ⟨rfl, rfl, by have := k0.size; have := b2.size; omega⟩, BK.b b2 (by have := k0.size; omega)⟩)⟩
  · obtain ⟨e1, e2, e3⟩ := ops_eq hD
    refine (append_any w B p m x (hD.da.step hb0) s hs v bs hv hsf (by omega) (by omega) hD.left).mono ?_
    rintro r w' ⟨rfl, hl⟩
    refine ⟨_, rfl, BK.l hl, hl.2.1, fun w1 k0 k8 v' hv' => ?_⟩
    obtain ⟨fv, hr⟩ := hD.rd
    have hr1 : RD w1 B q fv y := hr.kee k0
    obtain ⟨f1, f2⟩ := hD.da.fits
    obtain ⟨r1, r2⟩ := hD.rel.app hD.da.nodup hD.da.sy f2 f1 s.data.toList bs
    refine (DocAppend_any w1 B q fv y hr1 s hs v' bs hv' hl0 (by omega) (by rw [e2]; exact hD.left)).mono ?_
    rintro r w2 ⟨y', rfl, hy', hlv⟩
    have hops := apnd_ops x s.data.toList bs
    have hleft := hD.left
    exact ⟨by rw [r1], .inr ⟨p, m, q, _, y', rfl, rfl, ⟨(hl.1.k8 k8).ker hlv.2.1, hlv.1, by rw [hy']; exact r2, by omega⟩, by omega⟩, BK.r hlv⟩
end Go.Proofs.Ytakgkpiicigihaa
/- disk LXI: the law's looks. -/
namespace Go.Proofs.Ytakgkpiicigihaa
open Go.RowKit Go.Maps Go.Sort Go.Shelf pk
set_option linter.unusedVariables false
set_option linter.unusedSimpArgs false

theorem bs_nil (w : World) : Bs w (.slice none 0 0) [] := ⟨By.nil, none, 0, rfl, Nat.le_refl _, by omega, fun _ => rfl, fun h => (by cases h)⟩
theorem rread_any (w : World) (B q : Nat) (fv : Value) (y : RK) (h : RD w B q fv y) (s : ByteArray) (hs : s.size ≤ 9223372036854775807) :
    Calls Try.prog 38 #[ptr q, .string s] w fun r w' => (∃ v, r = .returned (.tuple #[v, .int .i64 ((rseen (rs y) s.data.toList).2.2 : Nat), .int .i64 ((rseen (rs y) s.data.toList).1 : Nat)]) ∧ Bs w' v (rseen (rs y) s.data.toList).2.1) ∧ Below w.heap.size w w' := by
  unfold rseen
  by_cases hn : isNm s.data.toList = false
  · rw [if_pos hn]
    refine (DocRead_bad w (ptr q) s hs hn).mono ?_
    rintro r w' ⟨rfl, b⟩
    exact ⟨⟨_, rfl, bs_nil _⟩, b⟩
  · rw [if_neg hn]
    have hn' : isNm s.data.toList = true := by simpa using hn
    cases hi : rix y.fs s.data.toList with
    | none =>
      have e : lkA (rs y).fs s.data.toList = none := lkA_none hi
      rw [e]
      refine (DocRead_none w B q fv y h s hs hn' hi).mono ?_
      rintro r w' ⟨rfl, b⟩
      exact ⟨⟨_, rfl, bs_nil _⟩, b⟩
    | some i =>
      obtain ⟨x, hx, hxn, hxl⟩ := lkA_some hi
      have e : lkA (rs y).fs s.data.toList = some (x.nm, x.bs, x.ks) := hxl
      rw [e]
      cases hof : y.off with
      | true =>
        have e2 : (rs y).off = true := hof
        rw [e2]
        refine (DocRead_off w B q fv y h s hs hn' i hi hof).mono ?_
        rintro r w' ⟨rfl, b⟩
        exact ⟨⟨_, rfl, bs_nil _⟩, b⟩
      | false =>
        have e2 : (rs y).off = false := hof
        rw [e2]
        refine (DocRead_yes w B q fv y h s hs hn' i hi x hx hof).mono ?_
        rintro r w' ⟨rfl, b⟩
        exact ⟨⟨_, rfl, (h.fil x (List.mem_of_getElem? hx)).b.step b⟩, b⟩
theorem ra_nms (fs : List RF) : (ra fs).map (·.1) = fs.map (·.nm) := by
  unfold ra
  rw [List.map_map]
  rfl
/-- what a look at both sides finds -/
theorem look_both (w : World) (B N : Nat) (P Q : Value) (h : St w B P Q N) (s : ByteArray) (hs : s.size ≤ 9223372036854775807) : ∃ (c n : Int) (bs : List Nat) (ns : List (List UInt8)), ns.length ≤ 64 ∧
    (∀ w', Below w.heap.size w w' → Calls Try.prog 17 #[P, .string s] w' fun r w2 => (∃ v, r = .returned (.tuple #[v, .int .i64 c]) ∧ OwnB w2 w'.heap.size v bs) ∧ Below w'.heap.size w' w2) ∧
    (∀ w', Below w.heap.size w w' → Calls Try.prog 38 #[Q, .string s] w' fun r w2 => (∃ v, r = .returned (.tuple #[v, .int .i64 n, .int .i64 c]) ∧ Bs w2 v bs) ∧ Below w'.heap.size w' w2) ∧
    (∀ w', Below w.heap.size w w' → Calls Try.prog 23 #[P, .string s] w' fun r w2 => r = .returned (.tuple #[.int .i64 n, .int .i64 c]) ∧ Below w'.heap.size w' w2) ∧
    (∀ w', Below w.heap.size w w' → Calls Try.prog 27 #[P] w' fun r w2 => (∃ v, r = .returned v ∧ Sn w2 v ns) ∧ Below w'.heap.size w' w2) ∧
    (∀ w', Below w.heap.size w w' → Calls Try.prog 40 #[Q] w' fun r w2 => (∃ v, r = .returned v ∧ Sn w2 v ns) ∧ Below w'.heap.size w' w2) := by
  have hnil : ∀ w', Sn w' (.slice none 0 0) [] := fun w' => ⟨none, 0, rfl, Nat.le_refl _, by omega, fun i l hl => (by simp at hl)⟩
  have hon : ∀ w' B', OwnB w' B' (.slice none 0 0) [] := fun w' B' => ⟨By.nil, World.ownsRow_nil _ _ _ _⟩
  rcases h with ⟨rfl, rfl, hB⟩ | ⟨p, m, q, x, y, rfl, rfl, hD, ho⟩
  · cases hn : isNm s.data.toList with
    | false =>
      refine ⟨1, 0, [], [], Nat.zero_le _, fun w' _ => (read_nilB w' s hs hn).mono (fun r w2 ⟨e, b⟩ => ⟨⟨_, e, hon _ _⟩, b⟩), fun w' _ => (rread_nilB w' s hs hn).mono (fun r w2 ⟨e, b⟩ => ⟨⟨_, e, bs_nil _⟩, b⟩), fun w' _ => size_nilB w' s hs hn, fun w' _ => (names_nil w').mono (fun r w2 ⟨e, b⟩ => ⟨⟨_, e, hnil _⟩, b⟩), fun w' _ => (rnames_nil w').mono (fun r w2 ⟨e, b⟩ => ⟨⟨_, e, hnil _⟩, b⟩)⟩
    | true =>
      refine ⟨7, 0, [], [], Nat.zero_le _, fun w' _ => (read_nil w' s hs hn).mono (fun r w2 ⟨e, b⟩ => ⟨⟨_, e, hon _ _⟩, b⟩), fun w' _ => (rread_nil w' s hs hn).mono (fun r w2 ⟨e, b⟩ => ⟨⟨_, e, bs_nil _⟩, b⟩), fun w' _ => size_nil w' s hs hn, fun w' _ => (names_nil w').mono (fun r w2 ⟨e, b⟩ => ⟨⟨_, e, hnil _⟩, b⟩), fun w' _ => (rnames_nil w').mono (fun r w2 ⟨e, b⟩ => ⟨⟨_, e, hnil _⟩, b⟩)⟩
  · obtain ⟨fv, hr⟩ := hD.rd
    have hsee := hD.rel.see hD.da.sy s.data.toList
    obtain ⟨e1, e2, e3⟩ := ops_eq hD
    refine ⟨((seen x s.data.toList).1 : Nat), ((seen x s.data.toList).2.length : Nat), flat (seen x s.data.toList).2, rnms y, ?_, fun w' hb => ?_, fun w' hb => ?_, fun w' hb => ?_, fun w' hb => ?_, fun w' hb => ?_⟩
    · unfold rnms
      split
      · exact Nat.zero_le _
      · rw [List.length_map]; exact hr.cnt
    · exact read_any w' B p m x (hD.da.step hb) s hs
    · refine (rread_any w' B q fv y (hr.step hb) s hs).mono ?_
      rw [hsee]
      exact fun r w2 h => h
    · refine (size_any w' B p m x (hD.da.step hb) s hs).mono ?_
      rintro r w2 ⟨rfl, rfl⟩
      exact ⟨rfl, Below.refl _ _⟩
    · refine (names_any w' B p m x (hD.da.step hb)).mono ?_
      rintro r w2 ⟨v, ns, rfl, h1, h2, h3, h4, h5, h6⟩
      refine ⟨⟨v, rfl, ?_⟩, h6⟩
      have hns : ns = rnms y := by
        unfold rnms
        cases hx : x.on with
        | false =>
          rw [hx] at e3
          rw [e3, h2 hx]
          rfl
        | true =>
          rw [hx] at e3
          rw [e3, ← ra_nms]
          exact names_eq (gs := (rs y).fs) hD.rel.fnd hD.rel.srt hD.da.nodup (h1 hx) h3
      rw [← hns]
      exact h4.sn
    · refine (rnames_ok w' B q fv y (hr.step hb)).mono ?_
      rintro r w2 ⟨⟨v, rfl, h1⟩, h2⟩
      exact ⟨⟨v, rfl, h1.sn⟩, h2⟩
set_option maxRecDepth 100000 in
set_option maxHeartbeats 8000000 in
theorem looks_ok (w : World) (B N : Nat) (P Q : Value) (h : St w B P Q N) (s : ByteArray) (hs : s.size ≤ 9223372036854775807) :
    Calls Try.prog 13 #[P, Q, .string s] w fun r w' => r = .returned (.bool true) ∧ Below w.heap.size w w' := by
  obtain ⟨c, n, bs, ns, hns, f1, f2, f3, f4, f5⟩ := look_both w B N P Q h s hs
  have HST : Hid (St w B P Q N) := h
  have F1 := (show Hid _ from f1)
  have F2 := (show Hid _ from f2)
  have F3 := (show Hid _ from f3)
  have F4 := (show Hid _ from f4)
  have F5 := (show Hid _ from f5)
  clear f1 f2 f3 f4 f5 h
  go_enter Try.func13, Try.ntmps13
  go_wp2_with fail
  refine (F1.out w (Below.refl _ _)).mono ?_
  rintro e w1 ⟨⟨v, rfl, o1⟩, b1⟩
  have HB1 : Hid (Below w.heap.size w w1) := b1
  have HO1 : Hid (OwnB w1 w.heap.size v bs) := o1
  obtain ⟨_, va, vc, hv, hv1, hv2, _⟩ := o1.bs
  obtain ⟨L, hL⟩ : ∃ L, L = bs.length := ⟨_, rfl⟩
  rw [← hL] at hv hv1
  have HL : Hid (L = bs.length) := hL
  clear o1 b1 hL
  subst hv
  go_wp2_with fail
  refine (F2.out w1 HB1.out).mono ?_
  rintro e w2 ⟨⟨v2, rfl, o2⟩, b2⟩
  have HB2 : Hid (Below w.heap.size w w2) := HB1.out.trans (b2.mono HB1.out.size)
  have HO2 : Hid (Bs w2 v2 bs) := o2
  have HO12 : Hid (OwnB w2 w.heap.size (.slice va L vc) bs) := HO1.out.stp b2
  clear o2 b2
  go_wp2_with fail
  refine (F3.out w2 HB2.out).mono ?_
  rintro e w3 ⟨rfl, b3⟩
  have HB3 : Hid (Below w.heap.size w w3) := HB2.out.trans (b3.mono HB2.out.size)
  have HO13 : Hid (OwnB w3 w.heap.size (.slice va L vc) bs) := HO12.out.stp b3
  have HO3 : Hid (Bs w3 v2 bs) := HO2.out.step b3
  clear b3
  go_wp2_with fail
  refine (same_ok _ _ bs bs w3 HO13.out.bs HO3.out).mono ?_
  rintro e w4 ⟨rfl, b4⟩
  rw [show decide (bs = bs) = true by simp]
  have HB4 : Hid (Below w.heap.size w w4) := HB3.out.trans (b4.mono HB3.out.size)
  have HO14 : Hid (OwnB w4 w.heap.size (.slice va L vc) bs) := HO13.out.stp b4
  clear b4
  go_wp2_with fail
  refine (F4.out w4 HB4.out).mono ?_
  rintro e w5 ⟨⟨u1, rfl, s5⟩, b5⟩
  have HB5 : Hid (Below w.heap.size w w5) := HB4.out.trans (b5.mono HB4.out.size)
  have HO15 : Hid (OwnB w5 w.heap.size (.slice va L vc) bs) := HO14.out.stp b5
  have HS5 : Hid (Sn w5 u1 ns) := s5
  clear b5 s5
  go_wp2_with fail
  refine (F5.out w5 HB5.out).mono ?_
  rintro e w6 ⟨⟨u2, rfl, s6⟩, b6⟩
  have HB6 : Hid (Below w.heap.size w w6) := HB5.out.trans (b6.mono HB5.out.size)
  have HO16 : Hid (OwnB w6 w.heap.size (.slice va L vc) bs) := HO15.out.stp b6
  have HS6 : Hid (Sn w6 u1 ns) := HS5.out.step b6
  have HT6 : Hid (Sn w6 u2 ns) := s6
  clear b6 s6
  go_wp2_with fail
  refine (sameNames_ok w6 u1 u2 ns ns HS6.out HT6.out (by omega)).mono ?_
  rintro e w7 ⟨rfl, b7⟩
  rw [show decide (ns = ns) = true by simp]
  have HB7 : Hid (Below w.heap.size w w7) := HB6.out.trans (b7.mono HB6.out.size)
  have HO17 : Hid (OwnB w7 w.heap.size (.slice va L vc) bs) := HO16.out.stp b7
  clear b7
  have HG : Hid (0 < L → ∃ g, va = some ⟨g, 0, none⟩ ∧ w.heap.size ≤ g ∧ Fl w7 g L) := (show 0 < L → _ from fun h0 => by
    rcases HO17.out.head with ⟨_, e2⟩ | ⟨g, cap, e, hg1, hg2, _, _⟩
    · have := HL.out
      rw [e2] at this
      simp at this
      omega
    · injection e with e _ _
      have h1 := HO17.out
      rw [e] at h1
      exact ⟨g, e, hg1, h1.fl⟩)
  have HRW : Hid (∀ p m q x y fv, Duo w B p m q x y → RD w B q fv y → ∀ w', Below w.heap.size w w' → DA w' B p m x ∧ RD w' B q fv y) := fun p m q x y fv h1 h2 w' h3 => ⟨h1.da.step h3, h2.step h3⟩
  clear HO1 HO12 HO13 HO14 HO15 HO16 HB1 HB2 HB3 HB4 HB5 HB6 HO2 HO3 HS5 HS6 HT6 F1 F2 F3 F4 F5
  go_wp2_with fail
  go_loopw [62] (fun i wr => ∃ k : Nat, k ≤ L ∧ i = .int .i64 (k : Int) ∧ Hid (0 < L → ∃ g, va = some ⟨g, 0, none⟩ ∧ w.heap.size ≤ g ∧ Fl wr g L) ∧ Hid (Below w.heap.size w wr)) (fun i _ => L - (intOf i).toNat)
  case atStart => exact ⟨0, Nat.zero_le _, rfl, HG.out, HB7.out⟩
  case round =>
    obtain ⟨k, hk, rfl, HGK, HB⟩ := hrel
    clear HG HB7 HO17
    by_cases hlt : k < L
    · have dk : (k : Int) < (L : Int) := by omega
      obtain ⟨g, hva, hg1, hfl⟩ := HGK.out (by omega)
      subst hva
      obtain ⟨b, hb⟩ := hfl.cell k hlt
      have f := hfl.free k
      have HFL : Hid (Fl wr g L) := hfl
      clear hfl HGK
      go_wp2_with fail
      go_roundw
      case rel => exact ⟨k + 1, by omega, by simp, fun _ => ⟨g, rfl, hg1, HFL.out.set k _⟩, (upd_set wr g k _).bel HB.out hg1⟩
      case measure => simp [intOf]; omega
    · obtain rfl : k = L := by omega
      rcases HST.out with ⟨rfl, rfl, _⟩ | ⟨p, m, q, x, y, rfl, rfl, hD, ho⟩
      · clear HGK
        go_wp2_with (first | (go_at_call 26; refine (on_nil _).mono ?_; rintro e wa ⟨rfl, ba⟩; have HA : Hid (Below w.heap.size w wa) := HB.out.trans (ba.mono HB.out.size); clear ba) | (go_at_call 25; refine (ops_nil _).mono ?_; rintro e wb ⟨rfl, bb⟩; have HBB : Hid (Below w.heap.size w wb) := HA.out.trans (bb.mono HA.out.size); clear bb))
        go_ret
        exact ⟨rfl, HBB.out⟩
      · obtain ⟨e1, e2, e3⟩ := ops_eq hD
        obtain ⟨fv, hr⟩ := hD.rd
        have HDW : Hid (∀ w', Below w.heap.size w w' → DA w' B p m x) := fun w' h => hD.da.step h
        have HRW2 : Hid (∀ w', Below w.heap.size w w' → RD w' B q fv y) := fun w' h => hr.step h
        have E1 : Hid (y.ops = x.ops) := e1
        have E3 : Hid (y.off = !x.on) := e3
        clear HGK HRW e1 e2 e3 hD hr
        have HRW := HRW2
        clear HRW2
        have hpp : (ptr p) = .pointer (some ⟨p, 0, none⟩) := rfl
        have hqq : (ptr q) = .pointer (some ⟨q, 0, none⟩) := rfl
        rw [hpp, hqq]
        go_upto_region 12 with fail
        refine wp_region_noPanic ?_
        refine wp_region_held_drew (S := fun V => VA V q (y.cells fv) 66) (by kernel_rfl) (VA.drew (HRW.out _ HB.out).va) ?_
        intro hHeld
        have HBD : Hid (Below w.heap.size w wr.drew) := HB.out.drew
        generalize wr.drew = W0 at *
        refine takeD 0 85 (.bool true) (by exact rfl) rfl (by kernel_rfl) (by kernel_rfl) (by kernel_rfl) (fun _ _ _ h => h) (Or.inl ⟨by rfl, ?_⟩) (by assumption) ?_
        · intro wq hS
          go_simp
        try simp only [Act.put, List.setIfInBounds_toArray, List.set_cons_zero, List.set_cons_succ]
        refine takeD 1 86 (.bool true) (by exact rfl) rfl (by kernel_rfl) (by kernel_rfl) (by kernel_rfl) (fun _ _ _ h => h) (Or.inl ⟨by rfl, ?_⟩) (by assumption) ?_
        · intro wq hS
          go_simp
        try simp only [Act.put, List.setIfInBounds_toArray, List.set_cons_zero, List.set_cons_succ]
        refine takeD 2 87 (.pointer (some ⟨p, 0, none⟩)) (by exact rfl) rfl (by kernel_rfl) (by kernel_rfl) (by kernel_rfl) (fun _ _ _ h => h) (Or.inl ⟨by rfl, ?_⟩) (by assumption) ?_
        · intro wq hS
          go_simp
        try simp only [Act.put, List.setIfInBounds_toArray, List.set_cons_zero, List.set_cons_succ]
        refine takeD 4 89 (.pointer (some ⟨q, 0, none⟩)) (by exact rfl) rfl (by kernel_rfl) (by kernel_rfl) (by kernel_rfl) (fun _ _ _ h => h) (Or.inl ⟨by rfl, ?_⟩) (by assumption) ?_
        · intro wq hS
          go_simp
        try simp only [Act.put, List.setIfInBounds_toArray, List.set_cons_zero, List.set_cons_succ]
        refine takeD 5 90 (.pointer (some ⟨q, 0, none⟩)) (by exact rfl) rfl (by kernel_rfl) (by kernel_rfl) (by kernel_rfl) (fun _ _ _ h => h) (Or.inl ⟨by rfl, ?_⟩) (by assumption) ?_
        · intro wq hS
          go_simp
        try simp only [Act.put, List.setIfInBounds_toArray, List.set_cons_zero, List.set_cons_succ]
        refine takeD 6 91 (.pointer (some ⟨q, 2, none⟩)) (by exact rfl) rfl (by kernel_rfl) (by kernel_rfl) (by kernel_rfl) (fun _ _ _ h => h) (Or.inl ⟨by rfl, ?_⟩) (by assumption) ?_
        · intro wq hS
          go_simp
        try simp only [Act.put, List.setIfInBounds_toArray, List.set_cons_zero, List.set_cons_succ]
        refine takeD 7 92 (.bool (!x.on)) (by exact rfl) rfl (by kernel_rfl) (by kernel_rfl) (by kernel_rfl) (fun _ _ _ h => h) (Or.inl ⟨by rfl, ?_⟩) (by assumption) ?_
        · intro wq hS
          have c := hS.cell 2 (v := .bool y.off) rfl; rw [E3.out] at c
          go_simp
        try simp only [Act.put, List.setIfInBounds_toArray, List.set_cons_zero, List.set_cons_succ]
        refine takeD 8 93 (.bool x.on) (by exact rfl) rfl (by kernel_rfl) (by kernel_rfl) (by kernel_rfl) (fun _ _ _ h => h) (Or.inl ⟨by rfl, ?_⟩) (by assumption) ?_
        · intro wq hS
          go_simp
        try simp only [Act.put, List.setIfInBounds_toArray, List.set_cons_zero, List.set_cons_succ]
        refine wpAnyH_ready (rs := [3]) (by kernel_rfl) (by simp) ?_
        refine AllReadyH.cons (by exact rfl) (fun K hK => ?_) AllReadyH.nil
        go_simp
        refine (on_any W0 B p m x (HDW.out _ HBD.out)).mono ?_
        rintro e w3 ⟨rfl, rfl⟩
        go_wp2_with fail
        refine hK.out _ _ hHeld (fun _ => ?_)
        clear hK K
        try simp only [Act.put, List.setIfInBounds_toArray, List.set_cons_zero, List.set_cons_succ]
        refine takeD 9 94 (.bool true) (by exact rfl) rfl (by kernel_rfl) (by kernel_rfl) (by kernel_rfl) (fun _ _ _ h => h) (Or.inl ⟨by rfl, ?_⟩) (by assumption) ?_
        · intro wq hS
          go_simp
        try simp only [Act.put, List.setIfInBounds_toArray, List.set_cons_zero, List.set_cons_succ]
        refine takeD 10 95 (.bool true) (by exact rfl) rfl (by kernel_rfl) (by kernel_rfl) (by kernel_rfl) (fun _ _ _ h => h) (Or.inl ⟨by rfl, ?_⟩) (by assumption) ?_
        · intro wq hS
          go_simp
        try simp only [Act.put, List.setIfInBounds_toArray, List.set_cons_zero, List.set_cons_succ]
        refine takeD 11 96 (.bool true) (by exact rfl) rfl (by kernel_rfl) (by kernel_rfl) (by kernel_rfl) (fun _ _ _ h => h) (Or.inl ⟨by rfl, ?_⟩) (by assumption) ?_
        · intro wq hS
          go_simp
        try simp only [Act.put, List.setIfInBounds_toArray, List.set_cons_zero, List.set_cons_succ]
        refine takeD 12 97 (.pointer (some ⟨p, 0, none⟩)) (by exact rfl) rfl (by kernel_rfl) (by kernel_rfl) (by kernel_rfl) (fun _ _ _ h => h) (Or.inl ⟨by rfl, ?_⟩) (by assumption) ?_
        · intro wq hS
          go_simp
        try simp only [Act.put, List.setIfInBounds_toArray, List.set_cons_zero, List.set_cons_succ]
        refine takeD 14 99 (.pointer (some ⟨q, 0, none⟩)) (by exact rfl) rfl (by kernel_rfl) (by kernel_rfl) (by kernel_rfl) (fun _ _ _ h => h) (Or.inl ⟨by rfl, ?_⟩) (by assumption) ?_
        · intro wq hS
          go_simp
        try simp only [Act.put, List.setIfInBounds_toArray, List.set_cons_zero, List.set_cons_succ]
        refine takeD 15 100 (.pointer (some ⟨q, 0, none⟩)) (by exact rfl) rfl (by kernel_rfl) (by kernel_rfl) (by kernel_rfl) (fun _ _ _ h => h) (Or.inl ⟨by rfl, ?_⟩) (by assumption) ?_
        · intro wq hS
          go_simp
        try simp only [Act.put, List.setIfInBounds_toArray, List.set_cons_zero, List.set_cons_succ]
        refine takeD 16 101 (.pointer (some ⟨q, 4, none⟩)) (by exact rfl) rfl (by kernel_rfl) (by kernel_rfl) (by kernel_rfl) (fun _ _ _ h => h) (Or.inl ⟨by rfl, ?_⟩) (by assumption) ?_
        · intro wq hS
          go_simp
        try simp only [Act.put, List.setIfInBounds_toArray, List.set_cons_zero, List.set_cons_succ]
        refine takeD 17 102 (.int .i64 (x.ops : Int)) (by exact rfl) rfl (by kernel_rfl) (by kernel_rfl) (by kernel_rfl) (fun _ _ _ h => h) (Or.inl ⟨by rfl, ?_⟩) (by assumption) ?_
        · intro wq hS
          have c := hS.cell 4 (v := .int .i64 y.ops) rfl; rw [E1.out] at c
          go_simp
        try simp only [Act.put, List.setIfInBounds_toArray, List.set_cons_zero, List.set_cons_succ]
        refine wpAnyH_ready (rs := [13]) (by kernel_rfl) (by simp) ?_
        refine AllReadyH.cons (by exact rfl) (fun K hK => ?_) AllReadyH.nil
        go_simp
        refine (ops_any w3 B p m x (HDW.out _ HBD.out)).mono ?_
        rintro e w4 ⟨rfl, rfl⟩
        go_wp2_with fail
        refine hK.out _ _ hHeld (fun _ => ?_)
        clear hK K
        try simp only [Act.put, List.setIfInBounds_toArray, List.set_cons_zero, List.set_cons_succ]
        refine takeD 18 103 (.bool true) (by exact rfl) rfl (by kernel_rfl) (by kernel_rfl) (by kernel_rfl) (fun _ _ _ h => h) (Or.inl ⟨by rfl, ?_⟩) (by assumption) ?_
        · intro wq hS
          go_simp
        try simp only [Act.put, List.setIfInBounds_toArray, List.set_cons_zero, List.set_cons_succ]
        refine takeD 19 104 (.bool true) (by exact rfl) rfl (by kernel_rfl) (by kernel_rfl) (by kernel_rfl) (fun _ _ _ h => h) (Or.inl ⟨by rfl, ?_⟩) (by assumption) ?_
        · intro wq hS
          go_simp
        try simp only [Act.put, List.setIfInBounds_toArray, List.set_cons_zero, List.set_cons_succ]
        refine takeD 20 6 (.bool true) (by exact rfl) rfl (by kernel_rfl) (by kernel_rfl) (by kernel_rfl) (fun _ _ _ h => h) (Or.inl ⟨by rfl, ?_⟩) (by assumption) ?_
        · intro wq hS
          go_simp
        try simp only [Act.put, List.setIfInBounds_toArray, List.set_cons_zero, List.set_cons_succ]
        refine wpAnyH_done (by kernel_rfl) ?_ _
        refine NoPanic.normal ?_
        clear hHeld
        go_wp2_with fail
        go_ret
        exact ⟨rfl, HBD.out⟩
end Go.Proofs.Ytakgkpiicigihaa
