/- The walk of PackWrites. -/
import Derived.Test.YtnchmflbhcdngaaAm
namespace Go.Proofs.Ytnchmflbhcdngaa
open Go.RowKit
set_option linter.unusedVariables false

/-- append(s, x...) behind a test that came out true -/
theorem appBw {w : World} {ops : Array Oper} {rest : List Oper} {o : Oper} {a : Act} {Q : Exit → Act → World → Prop} (hgd : Region.wanted o (yielded ops a.tmps) = true) (s x : Operand)
    (ho : o.op = .call { callee := .builtin .append, args := #[s, x], argTypes := #[22, 22] })
    (B : Nat) (cs bs : List Nat) (v u : Value) (hs : a.eval s = v) (hx : a.eval x = u)
    (hown : OwnB w B v cs) (hu : Bs w u bs) (hB : B ≤ w.heap.size) (hl : cs.length + bs.length ≤ 140737488355328)
    (h : ∀ v' w', OwnB w' B v' (cs ++ bs) → Below B w w' → wpList Try.prog ops Q rest (a.put o.dst v') w') :
    wpList Try.prog ops Q (o :: rest) a w := by
  obtain ⟨i0, hi, hz0, hz1, hz2⟩ := info8_parts
  obtain ⟨hby, ad, c, rfl, h1, h2, h3, h4⟩ := hu
  refine wpList_step fun K hK => ?_
  rw [if_pos hgd]
  have hfin : ∀ v' w', w'.ownsRow B 5 1 v' (cs.length + bs.length) (cl cs ++ cl bs) → w.grownBy w' v.ownBlock → K (a.put o.dst v') w' := fun v' w' g1 g2 =>
    hK _ _ (h v' w' ⟨hown.byte.app hby, by rw [List.length_append, ← cl_app]; exact g1⟩ ((Below.refl _ _).grown g2 hB hown.block))
  cases ad with
  | none =>
    obtain rfl := h3 rfl
    obtain rfl : bs = [] := List.eq_nil_of_length_eq_zero (by omega)
    have hrun := run_append_owned_none (P := Try.prog) (w := w) B 22 o.type 5 i0 1 Try.underlying22 hi v cs.length (cl cs) hown.own
    unfold Oper.wp
    simp [execOp, ho, resolve, invoke, builtin, hs, hx, hrun, Result.andThen]
    exact hK _ _ (h v w (by simpa using hown) (Below.refl _ _))
  | some ad =>
    refine wp_append_own _ s x 22 ho B 5 i0 (.int .u8 0) 1 1 Try.underlying22 hi hz0 hz1 hz2 rfl (by decide) v cs.length (cl cs) hs hown.own ad bs.length c (cl bs) hx (by simp [cl_len]) ?_ (fun u hu => cl_one hu) (by unfold maxLen; omega) (by omega) hB (fun v' w' g1 g2 _ => hfin v' w' g1 g2)
    intro j u hj
    have hj' : j < bs.length := by
      have := (List.getElem?_eq_some_iff.1 hj).1
      rwa [cl_len] at this
    obtain ⟨b, off, e, hb, hcell⟩ := h4 (by omega)
    cases e
    rw [Go.WideShapes.add_plain, hcell j hj', ← cl_get bs j hj', hj]
theorem OwnB.other {w : World} {B g n cap p j : Nat} {u : Value} {cs : List Nat} (h : OwnB w B (.slice (some ⟨g, 0, none⟩) n cap) cs) (hp : g ≠ p) : OwnB (w.setCell ⟨p, j, none⟩ u) B (.slice (some ⟨g, 0, none⟩) n cap) cs := by
  refine ⟨h.byte, h.own.1, ?_⟩
  rcases h.own.2 with h2 | ⟨g', cap', cur, e, hb, hg, r⟩
  · exact Or.inl h2
  · refine Or.inr ⟨g', cap', cur, e, hb, ?_, r⟩
    have e2 : g = g' := by simp at e; exact e.1
    subst e2
    rw [Below.heap_setCell _ _ _ _ hp]
    exact hg
/-- three rows of the law's own, and the list of them -/
structure Trio (wz w : World) (ga la ka gb lb kb gc lc kc gl : Nat) : Prop where
  a : ∃ cs, cs.length = la ∧ OwnB w wz.heap.size (.slice (some ⟨ga, 0, none⟩) la ka) cs
  b : ∃ cs, cs.length = lb ∧ OwnB w wz.heap.size (.slice (some ⟨gb, 0, none⟩) lb kb) cs
  c : ∃ cs, cs.length = lc ∧ OwnB w wz.heap.size (.slice (some ⟨gc, 0, none⟩) lc kc) cs
  l0 : w.cell? ⟨gl, 0, none⟩ = some (.slice (some ⟨ga, 0, none⟩) la ka)
  l1 : w.cell? ⟨gl, 1, none⟩ = some (.slice (some ⟨gb, 0, none⟩) lb kb)
  l2 : w.cell? ⟨gl, 2, none⟩ = some (.slice (some ⟨gc, 0, none⟩) lc kc)
  below : Below wz.heap.size wz w
/-- they lie apart -/
structure Apart4 (B ga gb gc gl : Nat) : Prop where
  a : B ≤ ga
  b : ga < gb
  c : gb < gc
  l : gc < gl
theorem cell_else {w : World} {g i p j : Nat} {u : Value} (h : g ≠ p) : (w.setCell ⟨p, j, none⟩ u).cell? ⟨g, i, none⟩ = w.cell? ⟨g, i, none⟩ :=
  World.cell?_of_block (w := w) (a := ⟨g, i, none⟩) (Below.heap_setCell _ _ _ _ h)
theorem Trio.sa {wz w : World} {ga la ka gb lb kb gc lc kc gl : Nat} (t : Trio wz w ga la ka gb lb kb gc lc kc gl) (n : Apart4 wz.heap.size ga gb gc gl) (j d : Nat) (hd : d < 256) : Trio wz (w.setCell ⟨ga, j, none⟩ (.int .u8 (d : Int))) ga la ka gb lb kb gc lc kc gl := by
  obtain ⟨ca, ha, oa⟩ := t.a
  obtain ⟨cb, hb, ob⟩ := t.b
  obtain ⟨cc, hc, oc⟩ := t.c
  have n1 := n.b
  have n2 := n.c
  have n3 := n.l
  exact ⟨⟨ca.set j d, by rw [List.length_set]; exact ha, oa.set ha j d hd⟩, ⟨cb, hb, ob.other (by omega)⟩, ⟨cc, hc, oc.other (by omega)⟩, (cell_else (by omega)).trans t.l0, (cell_else (by omega)).trans t.l1, (cell_else (by omega)).trans t.l2, t.below.setCell n.a _⟩
theorem Trio.sb {wz w : World} {ga la ka gb lb kb gc lc kc gl : Nat} (t : Trio wz w ga la ka gb lb kb gc lc kc gl) (n : Apart4 wz.heap.size ga gb gc gl) (j d : Nat) (hd : d < 256) : Trio wz (w.setCell ⟨gb, j, none⟩ (.int .u8 (d : Int))) ga la ka gb lb kb gc lc kc gl := by
  obtain ⟨ca, ha, oa⟩ := t.a
  obtain ⟨cb, hb, ob⟩ := t.b
  obtain ⟨cc, hc, oc⟩ := t.c
  have n0 := n.a
  have n1 := n.b
  have n2 := n.c
  have n3 := n.l
  exact ⟨⟨ca, ha, oa.other (by omega)⟩, ⟨cb.set j d, by rw [List.length_set]; exact hb, ob.set hb j d hd⟩, ⟨cc, hc, oc.other (by omega)⟩, (cell_else (by omega)).trans t.l0, (cell_else (by omega)).trans t.l1, (cell_else (by omega)).trans t.l2, t.below.setCell (show wz.heap.size ≤ gb by omega) _⟩
theorem Trio.sc {wz w : World} {ga la ka gb lb kb gc lc kc gl : Nat} (t : Trio wz w ga la ka gb lb kb gc lc kc gl) (n : Apart4 wz.heap.size ga gb gc gl) (j d : Nat) (hd : d < 256) : Trio wz (w.setCell ⟨gc, j, none⟩ (.int .u8 (d : Int))) ga la ka gb lb kb gc lc kc gl := by
  obtain ⟨ca, ha, oa⟩ := t.a
  obtain ⟨cb, hb, ob⟩ := t.b
  obtain ⟨cc, hc, oc⟩ := t.c
  have n0 := n.a
  have n1 := n.b
  have n2 := n.c
  have n3 := n.l
  exact ⟨⟨ca, ha, oa.other (by omega)⟩, ⟨cb, hb, ob.other (by omega)⟩, ⟨cc.set j d, by rw [List.length_set]; exact hc, oc.set hc j d hd⟩, (cell_else (by omega)).trans t.l0, (cell_else (by omega)).trans t.l1, (cell_else (by omega)).trans t.l2, t.below.setCell (show wz.heap.size ≤ gc by omega) _⟩
theorem OwnB.raise {w : World} {B B' g n cap : Nat} {cs : List Nat} (h : OwnB w B (.slice (some ⟨g, 0, none⟩) n cap) cs) (hB : B' ≤ g) : OwnB w B' (.slice (some ⟨g, 0, none⟩) n cap) cs := by
  refine ⟨h.byte, h.own.1, ?_⟩
  rcases h.own.2 with h2 | ⟨g', cap', cur, e, hb, r⟩
  · exact Or.inl h2
  · refine Or.inr ⟨g', cap', cur, e, ?_, r⟩
    have e2 : g = g' := by simp at e; exact e.1
    omega
theorem own_long {w : World} {B : Nat} {v : Value} {cs : List Nat} (h : OwnB w B v cs) (hl : 0 < cs.length) : ∃ g cap, v = .slice (some ⟨g, 0, none⟩) cs.length cap ∧ B ≤ g ∧ g < w.heap.size ∧ cs.length ≤ cap ∧ cap ≤ 9223372036854775807 := by
  rcases h.head with ⟨_, e⟩ | h
  · subst e; simp at hl
  · exact h
theorem i64_bd (n : Int) : -9223372036854775808 ≤ wrap64 n ∧ wrap64 n ≤ 9223372036854775807 := by
  unfold wrap64
  omega
set_option maxHeartbeats 8000000 in
set_option maxRecDepth 100000 in
theorem writes_walk (v u : Value) (ps qs : List Nat) (n : Nat) (w : World) (h : Bs w v ps) (hu : Bs w u qs) (hl : ps.length ≤ 1048576) (hl2 : qs.length ≤ 1048576) (hn : n < 18446744073709551616) :
    Calls Try.prog 3 #[v, u, .int .u64 n] w fun e w' => e = .returned (.bool true) ∧ Below w.heap.size w w' := by
  have P := (show Hid _ from h)
  have Q := (show Hid _ from hu)
  have EL := (show Hid _ from enc_len hn)
  have FL := (show Hid _ from enc_len (zz_lt (i64_bd n).1 (i64_bd n).2))
  have GL := (show Hid _ from enc_len (n := qs.length) (by omega))
  clear h hu
  go_enter Try.func3, Try.ntmps3
  go_wp2_with fail
  refine (awake_ok _).mono ?_
  rintro e w1 ⟨rfl, hb1⟩
  replace P := (show Hid _ from P.out.step hb1)
  replace Q := (show Hid _ from Q.out.step hb1)
  have G := (show Hid _ from hb1)
  clear hb1
  go_wp2_with fail
  refine (spare_ok _ ps _ P.out (by omega)).mono ?_
  rintro e w2 ⟨⟨g1, cap1, rfl, ho⟩, hb⟩
  have FX := (show Hid _ from ho.bs)
  have X := (show Hid _ from FX.out.cut ps.length (by simp))
  rw [List.take_left] at X
  replace P := (show Hid _ from P.out.step hb)
  replace Q := (show Hid _ from Q.out.step hb)
  replace G := (show Hid _ from G.out.trans (hb.mono G.out.size))
  clear hb
  clear ho
  go_wp2_with fail
  refine (spare_ok _ qs _ Q.out (by omega)).mono ?_
  rintro e w3 ⟨⟨g2, cap2, rfl, ho⟩, hb⟩
  have FY := (show Hid _ from ho.bs)
  have Y := (show Hid _ from FY.out.cut qs.length (by simp))
  rw [List.take_left] at Y
  replace P := (show Hid _ from P.out.step hb)
  replace Q := (show Hid _ from Q.out.step hb)
  replace FX := (show Hid _ from FX.out.step hb)
  replace X := (show Hid _ from X.out.step hb)
  replace G := (show Hid _ from G.out.trans (hb.mono G.out.size))
  clear hb
  clear ho
  have P0 := P
  have Q0 := Q
  obtain ⟨wz, hwz⟩ : ∃ wz, wz = w3 := ⟨_, rfl⟩
  rw [← hwz] at P0 Q0 FX FY G
  have Z : Hid (Below wz.heap.size wz w3) := by rw [hwz]; exact Below.refl _ _
  have HWZ : Hid (wz = w3) := hwz
  clear hwz
  go_wp2_with fail
  refine (uint_ok _ ps _ _ X.out (by omega) (by omega)).mono ?_
  rintro e w4 ⟨⟨a, rfl, ho⟩, hb⟩
  rw [Int.toNat_natCast] at ho
  have A := (show Hid _ from ho)
  obtain ⟨ga, ka, rfl, ga1, ga2, ga3, ga4⟩ := own_long ho (by have := enc_pos n; simp only [List.length_append]; omega)
  rw [← HWZ.out] at ga1
  obtain ⟨la, ela⟩ : ∃ l, l = (ps ++ enc n).length := ⟨_, rfl⟩
  have ELA : Hid (la = (ps ++ enc n).length) := ela
  rw [← ela] at ga3 A ⊢
  have hla : la ≤ 3000000 := by rw [ela]; simp only [List.length_append]; have := EL.out; omega
  clear ela
  replace P := (show Hid _ from P.out.step hb)
  replace Q := (show Hid _ from Q.out.step hb)
  replace X := (show Hid _ from X.out.step hb)
  replace Y := (show Hid _ from Y.out.step hb)
  replace Z := (show Hid _ from Z.out.trans (hb.mono Z.out.size))
  clear hb
  clear ho
  go_wp2_with fail
  refine (int_ok _ ps _ _ X.out (i64_bd n) (by omega)).mono ?_
  rintro e w5 ⟨⟨b, rfl, ho⟩, hb⟩
  have B := (show Hid _ from ho)
  obtain ⟨gb, kb, rfl, gb1, gb2, gb3, gb4⟩ := own_long ho (by have := enc_pos (zz (wrap64 n)); simp only [List.length_append]; omega)
  obtain ⟨lb, elb⟩ : ∃ l, l = (ps ++ enc (zz (wrap64 n))).length := ⟨_, rfl⟩
  have ELB : Hid (lb = (ps ++ enc (zz (wrap64 n))).length) := elb
  rw [← elb] at gb3 B ⊢
  have hlb : lb ≤ 3000000 := by rw [elb]; simp only [List.length_append]; have := FL.out; omega
  clear elb
  replace P := (show Hid _ from P.out.step hb)
  replace Q := (show Hid _ from Q.out.step hb)
  replace X := (show Hid _ from X.out.step hb)
  replace Y := (show Hid _ from Y.out.step hb)
  replace A := (show Hid _ from A.out.step hb)
  replace Z := (show Hid _ from Z.out.trans (hb.mono Z.out.size))
  clear hb
  clear ho
  go_wp2_with fail
  refine (bytes_ok _ _ ps qs _ X.out Y.out (by omega)).mono ?_
  rintro e w6 ⟨⟨c, rfl, ho⟩, hb⟩
  have C := (show Hid _ from ho)
  obtain ⟨gc, kc, rfl, gc1, gc2, gc3, gc4⟩ := own_long ho (by have := enc_pos qs.length; simp only [List.length_append]; omega)
  obtain ⟨lc, elc⟩ : ∃ l, l = (ps ++ enc qs.length ++ qs).length := ⟨_, rfl⟩
  have ELC : Hid (lc = (ps ++ enc qs.length ++ qs).length) := elc
  rw [← elc] at gc3 C ⊢
  have hlc : lc ≤ 3000000 := by rw [elc]; simp only [List.length_append]; have := GL.out; omega
  clear elc
  replace P := (show Hid _ from P.out.step hb)
  replace Q := (show Hid _ from Q.out.step hb)
  replace A := (show Hid _ from A.out.step hb)
  replace B := (show Hid _ from B.out.step hb)
  replace Z := (show Hid _ from Z.out.trans (hb.mono Z.out.size))
  clear hb
  clear ho X Y
  have N1 : Hid (wz.heap.size ≤ ga ∧ ga < gb ∧ gb < gc ∧ gc < w6.heap.size) := by
    show _ ∧ _
    omega
  clear ga1 ga2 gb1 gb2 gc1 gc2
  go_wp2_with fail
  refine (twin_ok _ ps _ P.out (by omega)).mono ?_
  rintro e x1 ⟨⟨t, rfl, ho⟩, hb⟩
  have T := (show Hid _ from ho)
  have Q1 := (show Hid _ from Q.out.step hb)
  have Z1 := (show Hid _ from hb)
  clear ho hb
  go_wp2_with fail
  refine (ruint_ok _ _ (by omega)).mono ?_
  rintro e x2 ⟨⟨r, rfl, ho⟩, hb⟩
  rw [Int.toNat_natCast] at ho
  replace T := (show Hid _ from T.out.step hb)
  have R := (show Hid _ from ho.bs)
  replace Z1 := (show Hid _ from Z1.out.trans (hb.mono Z1.out.size))
  have hsz := Z1.out.size
  clear ho hb Q1
  go_wp2_with (at_builtin; refine appB rfl _ _ rfl w6.heap.size ps (enc n) _ _ (by rfl) (by rfl) T.out R.out hsz (by have := EL.out; have := FL.out; have := GL.out; (try simp only [List.length_append]); omega) ?_; intro t2 x3 ho2 hb2)
  have hb := Z1.out.trans hb2
  replace P := (show Hid _ from P.out.step hb)
  replace Q := (show Hid _ from Q.out.step hb)
  replace A := (show Hid _ from A.out.step hb)
  replace B := (show Hid _ from B.out.step hb)
  replace C := (show Hid _ from C.out.step hb)
  replace Z := (show Hid _ from Z.out.trans (hb.mono Z.out.size))
  clear hb
  have S := (show Hid _ from ho2.bs)
  clear T R Z1 hsz ho2 hb2
  refine (same_ok _ _ (ps ++ enc n) (ps ++ enc n) _ A.out.bs (by simpa using S.out)).mono ?_
  rintro e x4 ⟨rfl, hb⟩
  rw [show decide (ps ++ enc n = ps ++ enc n) = true by simp]
  clear S
  replace P := (show Hid _ from P.out.step hb)
  replace Q := (show Hid _ from Q.out.step hb)
  replace A := (show Hid _ from A.out.step hb)
  replace B := (show Hid _ from B.out.step hb)
  replace C := (show Hid _ from C.out.step hb)
  replace Z := (show Hid _ from Z.out.trans (hb.mono Z.out.size))
  clear hb
  go_wp2_with fail
  refine (twin_ok _ ps _ P.out (by omega)).mono ?_
  rintro e y1 ⟨⟨t, rfl, ho⟩, hb⟩
  have T := (show Hid _ from ho)
  have Q1 := (show Hid _ from Q.out.step hb)
  have Z1 := (show Hid _ from hb)
  clear ho hb
  go_wp2_with fail
  refine (rint_ok _ _ (i64_bd n)).mono ?_
  rintro e y2 ⟨⟨r, rfl, ho⟩, hb⟩
  replace T := (show Hid _ from T.out.step hb)
  have R := (show Hid _ from ho.bs)
  replace Z1 := (show Hid _ from Z1.out.trans (hb.mono Z1.out.size))
  have hsz := Z1.out.size
  clear ho hb Q1
  go_wp2_with (at_builtin; refine appBw (by rfl) _ _ rfl x4.heap.size ps (enc (zz (wrap64 n))) _ _ (by rfl) (by rfl) T.out R.out hsz (by have := EL.out; have := FL.out; have := GL.out; (try simp only [List.length_append]); omega) ?_; intro t2 y3 ho2 hb2)
  have hb := Z1.out.trans hb2
  replace P := (show Hid _ from P.out.step hb)
  replace Q := (show Hid _ from Q.out.step hb)
  replace A := (show Hid _ from A.out.step hb)
  replace B := (show Hid _ from B.out.step hb)
  replace C := (show Hid _ from C.out.step hb)
  replace Z := (show Hid _ from Z.out.trans (hb.mono Z.out.size))
  clear hb
  have S := (show Hid _ from ho2.bs)
  clear T R Z1 hsz ho2 hb2
  refine (same_ok _ _ (ps ++ enc (zz (wrap64 n))) (ps ++ enc (zz (wrap64 n))) _ B.out.bs (by simpa using S.out)).mono ?_
  rintro e y4 ⟨rfl, hb⟩
  rw [show decide (ps ++ enc (zz (wrap64 n)) = ps ++ enc (zz (wrap64 n))) = true by simp]
  clear S
  replace P := (show Hid _ from P.out.step hb)
  replace Q := (show Hid _ from Q.out.step hb)
  replace A := (show Hid _ from A.out.step hb)
  replace B := (show Hid _ from B.out.step hb)
  replace C := (show Hid _ from C.out.step hb)
  replace Z := (show Hid _ from Z.out.trans (hb.mono Z.out.size))
  clear hb
  go_wp2_with fail
  refine (twin_ok _ ps _ P.out (by omega)).mono ?_
  rintro e z1 ⟨⟨t, rfl, ho⟩, hb⟩
  have T := (show Hid _ from ho)
  have Q1 := (show Hid _ from Q.out.step hb)
  have Z1 := (show Hid _ from hb)
  clear ho hb
  go_wp2_with fail
  refine (rbytes_ok _ qs _ Q1.out (by omega)).mono ?_
  rintro e z2 ⟨⟨r, rfl, ho⟩, hb⟩
  replace T := (show Hid _ from T.out.step hb)
  have R := (show Hid _ from ho.bs)
  replace Z1 := (show Hid _ from Z1.out.trans (hb.mono Z1.out.size))
  have hsz := Z1.out.size
  clear ho hb Q1
  go_wp2_with (at_builtin; refine appBw (by rfl) _ _ rfl y4.heap.size ps (enc qs.length ++ qs) _ _ (by rfl) (by rfl) T.out R.out hsz (by have := EL.out; have := FL.out; have := GL.out; (try simp only [List.length_append]); omega) ?_; intro t2 z3 ho2 hb2)
  have hb := Z1.out.trans hb2
  replace P := (show Hid _ from P.out.step hb)
  replace Q := (show Hid _ from Q.out.step hb)
  replace A := (show Hid _ from A.out.step hb)
  replace B := (show Hid _ from B.out.step hb)
  replace C := (show Hid _ from C.out.step hb)
  replace Z := (show Hid _ from Z.out.trans (hb.mono Z.out.size))
  clear hb
  have S := (show Hid _ from ho2.bs)
  clear T R Z1 hsz ho2 hb2
  refine (same_ok _ _ (ps ++ enc qs.length ++ qs) (ps ++ enc qs.length ++ qs) _ C.out.bs (by simpa using S.out)).mono ?_
  rintro e z4 ⟨rfl, hb⟩
  rw [show decide (ps ++ enc qs.length ++ qs = ps ++ enc qs.length ++ qs) = true by simp]
  clear S
  replace P := (show Hid _ from P.out.step hb)
  replace Q := (show Hid _ from Q.out.step hb)
  replace A := (show Hid _ from A.out.step hb)
  replace B := (show Hid _ from B.out.step hb)
  replace C := (show Hid _ from C.out.step hb)
  replace Z := (show Hid _ from Z.out.trans (hb.mono Z.out.size))
  clear hb
  go_wp2_with fail
  have zsz := Z.out.size
  have NE : Hid (Apart4 wz.heap.size ga gb gc z4.heap.size) := by
    have n1 := N1.out
    have hc : gc < z4.heap.size := by
      obtain ⟨g', cap', e, _, h2, _⟩ := own_long C.out (by have := ELC.out; have := enc_pos qs.length; simp only [List.length_append] at this ⊢; omega)
      simp at e
      omega
    exact ⟨n1.1, n1.2.1, n1.2.2.1, hc⟩
  have TR : Hid (Trio wz (z4.alloc (.cells #[.slice (some ⟨ga, 0, none⟩) la ka, .slice (some ⟨gb, 0, none⟩) lb kb, .slice (some ⟨gc, 0, none⟩) lc kc] 22)) ga la ka gb lb kb gc lc kc z4.heap.size) := by
    have n1 := N1.out
    refine ⟨⟨_, ELA.out.symm, (A.out.raise (by omega)).alloc _⟩, ⟨_, ELB.out.symm, (B.out.raise (by omega)).alloc _⟩, ⟨_, ELC.out.symm, (C.out.raise (by omega)).alloc _⟩, by simp [go_sem], by simp [go_sem], by simp [go_sem], Z.out.alloc Z.out.size _⟩
  clear A B C P Q Z zsz
  generalize z4.alloc (.cells #[.slice (some ⟨ga, 0, none⟩) la ka, .slice (some ⟨gb, 0, none⟩) lb kb, .slice (some ⟨gc, 0, none⟩) lc kc] 22) = WL at *
  generalize z4.heap.size = gl at *
  have c0 := TR.out.l0
  have c1 := TR.out.l1
  have c2 := TR.out.l2
  refine wp_loop_rounds 4 ?_
  rw [rounds_succ]
  go_wp2_with fail
  go_loopw [77] (fun i wr => ∃ j : Nat, j ≤ la ∧ i = .int .i64 j ∧ Trio wz wr ga la ka gb lb kb gc lc kc gl) (fun i _ => la - (intOf i).toNat)
  case atStart => exact ⟨0, by omega, rfl, TR.out⟩
  case round =>
    clear TR
    obtain ⟨j, hj, rfl, tr⟩ := hrel
    have TR := (show Hid _ from tr)
    clear tr
    have c0 := TR.out.l0
    have c1 := TR.out.l1
    have c2 := TR.out.l2
    by_cases hjm : la = j
    · subst hjm
      go_wp2_with fail
      rw [rounds_succ]
      go_wp2_with fail
      go_loopw [77] (fun i wr => ∃ j : Nat, j ≤ lb ∧ i = .int .i64 j ∧ Trio wz wr ga la ka gb lb kb gc lc kc gl) (fun i _ => lb - (intOf i).toNat)
      case atStart => exact ⟨0, by omega, rfl, TR.out⟩
      case round =>
        clear TR
        obtain ⟨j, hj, rfl, tr⟩ := hrel
        have TR := (show Hid _ from tr)
        clear tr
        have c0 := TR.out.l0
        have c1 := TR.out.l1
        have c2 := TR.out.l2
        by_cases hjm : lb = j
        · subst hjm
          go_wp2_with fail
          rw [rounds_succ]
          go_wp2_with fail
          go_loopw [77] (fun i wr => ∃ j : Nat, j ≤ lc ∧ i = .int .i64 j ∧ Trio wz wr ga la ka gb lb kb gc lc kc gl) (fun i _ => lc - (intOf i).toNat)
          case atStart => exact ⟨0, by omega, rfl, TR.out⟩
          case round =>
            clear TR
            obtain ⟨j, hj, rfl, tr⟩ := hrel
            have TR := (show Hid _ from tr)
            clear tr
            have c0 := TR.out.l0
            have c1 := TR.out.l1
            have c2 := TR.out.l2
            by_cases hjm : lc = j
            · subst hjm
              go_wp2_with fail
              rw [rounds_succ]
              go_wp2_with fail
              refine (kept_ok _ _ ps _ (FX.out.step TR.out.below) (P0.out.step TR.out.below)).mono ?_
              rintro e wv ⟨rfl, hb⟩
              have Y1 := (show Hid _ from TR.out.below.trans (hb.mono TR.out.below.size))
              clear hb
              go_wp2_with fail
              refine (kept_ok _ _ qs _ (FY.out.step Y1.out) (Q0.out.step Y1.out)).mono ?_
              rintro e ww ⟨rfl, hb⟩
              replace Y1 := (show Hid _ from Y1.out.trans (hb.mono Y1.out.size))
              clear hb
              go_wp2_with fail
              go_ret
              exact ⟨rfl, G.out.trans (Y1.out.mono G.out.size)⟩
            · have hjl : j < lc := by omega
              obtain ⟨cs, hcs, ho⟩ := TR.out.c
              have hcell := ho.cell hcs j hjl
              clear c0 c1 c2
              have hfree := ho.free j
              have hbt := bt_bd ho.byte j
              obtain ⟨d, hd, hd2⟩ := xor_one ho.byte j
              have OH := (show Hid _ from ho)
              clear ho hcs
              go_wp2_with fail
              refine ⟨⟨j + 1, by omega, by go_num, TR.out.sc NE.out j d hd2⟩, by simp [intOf]; omega⟩
        · have hjl : j < lb := by omega
          obtain ⟨cs, hcs, ho⟩ := TR.out.b
          have hcell := ho.cell hcs j hjl
          clear c0 c1 c2
          have hfree := ho.free j
          have hbt := bt_bd ho.byte j
          obtain ⟨d, hd, hd2⟩ := xor_one ho.byte j
          have OH := (show Hid _ from ho)
          clear ho hcs
          go_wp2_with fail
          refine ⟨⟨j + 1, by omega, by go_num, TR.out.sb NE.out j d hd2⟩, by simp [intOf]; omega⟩
    · have hjl : j < la := by omega
      obtain ⟨cs, hcs, ho⟩ := TR.out.a
      have hcell := ho.cell hcs j hjl
      clear c0 c1 c2
      have hfree := ho.free j
      have hbt := bt_bd ho.byte j
      obtain ⟨d, hd, hd2⟩ := xor_one ho.byte j
      have OH := (show Hid _ from ho)
      clear ho hcs
      go_wp2_with fail
      refine ⟨⟨j + 1, by omega, by go_num, TR.out.sa NE.out j d hd2⟩, by simp [intOf]; omega⟩
theorem writes_walk0 (v u : Value) (ps qs : List Nat) (a2 : Int) (w : World) (h : Bs w v ps) (hu : Bs w u qs) (hl : ps.length ≤ 1048576) (hl2 : qs.length ≤ 1048576) (w2 : (Lit.int .u64 a2).wf = true) :
    Calls Try.prog 3 #[v, u, .int .u64 a2] w fun e w' => e = .returned (.bool true) ∧ Below w.heap.size w w' := by
  have hw2 : 0 ≤ a2 ∧ a2 ≤ 18446744073709551615 := by simpa [Lit.wf, IntKind.min, IntKind.max, IntKind.signed, IntKind.bits] using w2
  obtain ⟨n, rfl⟩ : ∃ n : Nat, a2 = (n : Int) := ⟨a2.toNat, by omega⟩
  exact writes_walk v u ps qs n w h hu hl hl2 (by omega)
end Go.Proofs.Ytnchmflbhcdngaa
