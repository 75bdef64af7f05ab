/- disk XV: files that are cut and synced; perform; Sync, Truncate. -/
import Derived.Test.YtkmdegmpffgplaaGreatDoorLaj
import Derived.Shelf.SlIter.Nil
import Derived.Shelf.SortM.Plain
import Derived.Shelf.SortM.SortNone
import Derived.Ground.GgzProg
import Derived.Ground.SlgmProg
namespace Go.Proofs.YtkmdegmpffgplaaGreatDoor
open Go.RowKit Go.Shelf Go.Maps pk
set_option linter.unusedVariables false

theorem appSS {w : World} {ops : Array Oper} {rest : List Oper} {o : Oper} {a : Act} {Q : Exit → Act → World → Prop} (hgd : o.guard = none) (s x : Operand)
    (ho : o.op = .call { callee := .builtin .append, args := #[s, x], argTypes := #[114, 114] })
    (B : Nat) (ys : List (List Nat)) (v : Value) (ad : Addr) (n c : Nat) (hs : a.eval s = v) (hx : a.eval x = .slice (some ad) n c)
    (hown : Own KS w B v []) (hu : Sl KS w (.slice (some ad) n c) ys) (hB : B ≤ w.heap.size) (hl : ys.length ≤ 65536)
    (h : ∀ v' w', Own KS w' B v' ys → Below B w w' → wpList Tryz.prog ops Q rest (a.put o.dst v') w') : wpList Tryz.prog ops Q (o :: rest) a w := by
  have e2 : KS.bt = 32 := rfl
  refine appS (K := KS) hgd s x ho B [] ys v _ hs hx hown hu (fun n c e => by cases e) hB (by rw [e2]; simp; omega) (by simp; omega) (fun v' w' p q r => h v' w' (by simpa using p) q)
set_option maxRecDepth 100000 in
theorem clones_ok (w : World) (g off n cap : Nat) (ss : List (List Nat)) (hs : Sl KS w (.slice (some ⟨g, off, none⟩) n cap) ss) (hn : ss.length ≤ 65536) :
    Calls Tryz.prog 131 #[.slice (some ⟨g, off, none⟩) n cap] w fun r w' => (∃ u, r = .returned u ∧ Own KS w' w.heap.size u ss) ∧ Below w.heap.size w w' := by
  have hb := (Below.refl w.heap.size w).alloc (Nat.le_refl _) (.cells #[] 143)
  have H := (show Hid _ from hs.step hb)
  have HO : Hid (Own KS (w.alloc (.cells #[] 143)) w.heap.size (.slice (some ⟨w.heap.size, 0, none⟩) 0 0) []) := own_made KS w
  have HB := (show Hid _ from hb)
  clear hs hb
  have he : ∀ (w : World) (n : Nat), (binOp .eql 114 (.slice (some ⟨g, off, none⟩) n cap) (.slice none 0 0)).run Tryz.prog w = .ok (.bool false) w := fun _ _ => rfl
  go_enter Tryz.func131, Tryz.ntmps131
  go_wp2_with (at_builtin; refine appSS rfl _ _ rfl w.heap.size ss _ _ _ _ (by rfl) (by rfl) HO.out H.out (by simp) hn ?_; intro v' w1 ho hb1)
  have HO1 : Hid (Own KS w1 w.heap.size v' ss) := ho
  have HB1 := (show Hid _ from hb1)
  clear ho hb1
  go_wp2_with fail
  go_ret
  exact ⟨⟨_, rfl, HO1.out⟩, HB.out.trans HB1.out⟩
/-- what a change of one file leaves -/
def Chf (w w' : World) (B : Nat) (e : Ent) (ss : List (List Nat)) (sy : Nat) : Prop := ∃ v', Fil w' B { e with v := v', ss := ss, sy := sy } ∧ But (XF e) w w' ∧ ∀ g, v'.ownBlock = some g → e.v.ownBlock = some g ∨ w.heap.size ≤ g
theorem cutTo_ok (w : World) (B : Nat) (e : Ent) (h : Fil w B e) (hn : e.ss.length ≤ 65536) (hB : B ≤ w.heap.size) (n : Nat) (hn2 : n ≤ 9223372036854775807) :
    Calls Tryz.prog 114 #[ptr e.q, .int .i64 (n : Int)] w fun r w' => (∃ v, r = .returned v) ∧ Chf w w' B e (e.ss.take n) (min n e.ss.length) := by
  obtain ⟨a, cap, hv, hc, hc2⟩ := h.row.form
  have y0 := h.blk.cell 0 (v := e.v) rfl
  have y1 := h.blk.cell 1 (v := .int .i64 e.sy) rfl
  have f0 := h.blk.free 0
  have f1 := h.blk.free 1
  rw [hv] at y0
  have HH := (show Hid _ from h)
  have HV := (show Hid _ from hv)
  generalize hnl : e.ss.length = k at *
  have HK := (show Hid _ from hnl)
  have hp : (ptr e.q) = .pointer (some ⟨e.q, 0, none⟩) := rfl
  rw [hp]
  have hlq := h.blk.lt
  clear hv hnl
  by_cases hlt : n < k
  · have d1 : (n : Int) < (k : Int) := by omega
    have d2 : (n : Int) ≤ (cap : Int) := by omega
    have hsl := h.row.sl
    rw [HV.out] at hsl
    obtain ⟨s0, hs0⟩ : ∃ s0, e.ss[0]? = some s0 := ⟨_, List.getElem?_eq_getElem (by rw [HK.out]; omega)⟩
    obtain ⟨g, off, rfl, hg, _⟩ := hsl.at 0 s0 hs0
    have hfr : Sl KS w (.slice (some ⟨g, off, none⟩) n cap) (e.ss.take n) := by
      have h2 : e.ss = e.ss.take n ++ e.ss.drop n := (List.take_append_drop _ _).symm
      rw [h2] at hsl
      have h3 := hsl.front
      have h4 : (e.ss.take n).length = n := by rw [List.length_take, HK.out]; omega
      rw [h4] at h3
      exact h3
    have HFR := (show Hid _ from hfr)
    have HL1 : Hid ((e.ss.take n).length = n) := (show (e.ss.take n).length = n by rw [List.length_take, HK.out]; omega)
    clear hsl hfr h hs0
    go_enter Tryz.func114, Tryz.ntmps114
    go_wp2_with (go_at_call 131; refine (clones_ok _ _ _ _ _ (e.ss.take n) HFR.out (by rw [HL1.out]; omega)).mono ?_; rintro r w1 ⟨⟨u, rfl, ho⟩, b1⟩; obtain ⟨a1, c1, hu, hc1, _⟩ := ho.form; have hl1 := HL1.out; rw [hl1] at hu hc1; subst hu; have q1 := HH.out.blk.step b1; have z0 := q1.cell 0 (v := e.v) rfl; have z1 := q1.cell 1 (v := .int .i64 e.sy) rfl; have g0 := q1.free 0; have g1 := q1.free 1; rw [HV.out] at z0; have HO1 : Hid (Own KS w1 w.heap.size (.slice a1 n c1) (e.ss.take n)) := ho; have HB1 := (show Hid _ from b1); have HQ1 := (show Hid _ from q1); clear ho b1 q1)
    go_end0
    have U1 := upd_set w1 e.q 0 (.slice a1 n c1)
    have U2 := upd_set (w1.setCell ⟨e.q, 0, none⟩ (.slice a1 n c1)) e.q 1 (.int .i64 (n : Int))
    have hl1 : (e.ss.take n).length = n := by rw [List.length_take, HK.out]; omega
    refine ⟨⟨_, rfl⟩, .slice a1 n c1, ⟨?_, ?_, HH.out.lo, (by show min n k ≤ (e.ss.take n).length; rw [List.length_take, HK.out]; exact Nat.le_refl _), fun s hs => HH.out.byte s (List.mem_of_mem_take hs), HH.out.nm⟩, ?_, fun g hg => .inr (HO1.out.block g hg)⟩
    · have := (HQ1.out.set 0 (.slice a1 n c1)).set 1 (.int .i64 (n : Int))
      show VA _ e.q [_, .int .i64 ((min n k : Nat) : Int)] _
      rw [show min n k = n by omega]
      exact this
    · refine (HO1.out.lower hB).blk (fun g hg => ((U1.trans U2).block g (fun e2 => ?_)))
      have := HO1.out.block g hg
      omega
    · exact (below_but HB1.out _).trans ((U1.trans U2).but.mono (fun i h => .inl h)) (fun _ _ h => h)
  · have d1 : ¬ (n : Int) < (k : Int) := by omega
    clear h
    go_enter Tryz.func114, Tryz.ntmps114
    go_wp2_with fail
    go_end0
    have e1 : e.ss.take n = e.ss := List.take_of_length_le (by rw [HK.out]; omega)
    have U2 := upd_set w e.q 1 (.int .i64 (k : Int))
    refine ⟨⟨_, rfl⟩, e.v, ⟨?_, ?_, HH.out.lo, (by show min n k ≤ (e.ss.take n).length; rw [List.length_take, HK.out]; exact Nat.le_refl _), fun s hs => HH.out.byte s (List.mem_of_mem_take hs), HH.out.nm⟩, U2.but.mono (fun i h => .inl h), fun g hg => .inl hg⟩
    · have := HH.out.blk.set 1 (.int .i64 (k : Int))
      show VA _ e.q [_, .int .i64 ((min n k : Nat) : Int)] _
      rw [show min n k = k by omega]
      exact this
    · show Own KS _ B e.v (e.ss.take n)
      rw [e1]
      refine HH.out.row.blk (fun g hg => U2.block g (fun e2 => ?_))
      obtain ⟨cs, hcs⟩ := row_blk HH.out.row hg
      rw [e2, HH.out.blk.blk] at hcs
      injection hcs with hcs
      injection hcs with _ hT _
      cases hT
theorem sync1_ok (w : World) (B Bf : Nat) (e : Ent) (h : Fil w B e) (hf : VA w Bf [ptr e.q] 110) (hn : e.ss.length ≤ 65536) :
    Calls Tryz.prog 91 #[ptr Bf] w fun r w' => (∃ v, r = .returned v) ∧ Chf w w' B e e.ss e.ss.length := by
  obtain ⟨a, cap, hv, hc, hc2⟩ := h.row.form
  have y0 := h.blk.cell 0 (v := e.v) rfl
  have y1 := h.blk.cell 1 (v := .int .i64 e.sy) rfl
  have f1 := h.blk.free 1
  rw [hv] at y0
  have yb := hf.cell 0 (v := ptr e.q) rfl
  have HH := (show Hid _ from h)
  have hp : (ptr e.q) = .pointer (some ⟨e.q, 0, none⟩) := rfl
  have hp2 : (ptr Bf) = .pointer (some ⟨Bf, 0, none⟩) := rfl
  rw [hp] at yb
  rw [hp2]
  have hlq := h.blk.lt
  have hlb := hf.lt
  clear h hf hv
  go_enter Tryz.func91, Tryz.ntmps91
  go_region
  all_goals go_wp2_with fail
  all_goals go_end0
  all_goals
    refine ⟨⟨_, rfl⟩, e.v, ⟨?_, ?_, HH.out.lo, Nat.le_refl _, HH.out.byte, HH.out.nm⟩, ?_, fun g hg => .inl hg⟩
    · exact (HH.out.blk.set 1 (.int .i64 (e.ss.length : Int))).drew
    · refine HH.out.row.blk (fun g hg => (upd_set w e.q 1 (.int .i64 (e.ss.length : Int))).block g (fun e2 => ?_))
      obtain ⟨cs, hcs⟩ := row_blk HH.out.row hg
      rw [e2, HH.out.blk.blk] at hcs
      injection hcs with hcs
      injection hcs with _ hT _
      cases hT
    · have hb : But (XF e) w (w.setCell ⟨e.q, 1, none⟩ (.int .i64 (e.ss.length : Int))) := (upd_set w e.q 1 (.int .i64 (e.ss.length : Int))).but.mono (fun i h => Or.inl h)
      exact ⟨hb.os, hb.tape, hb.output, hb.size, hb.block⟩

theorem perf_sync (w : World) (B p m : Nat) (x : DK) (h : Dsk w B p m x) (hon : x.on = true) (ho : x.ops ≤ 4611686018427387904) (hlf : x.left ≤ 9223372036854775807) (Bf : Nat) (hst : (beg x).on = true) (R : World → Prop)
    (hcl : ∀ w3, Hdr w w3 B p m (beg x) → Calls Tryz.prog 91 #[ptr Bf] w3 fun r w' => (∃ v, r = .returned v) ∧ R w') :
    Calls Tryz.prog 78 #[ptr p, .func (.func 91) #[] #[ptr Bf]] w fun r w' => r = .returned (.int .i64 0) ∧ R w' := by
  have y := h.va.cell 2 (v := .bool x.on) rfl
  rw [hon] at y
  have HH := (show Hid _ from h)
  have HC : Hid (Unit → ∀ w3, Hdr w w3 B p m (beg x) → Calls Tryz.prog 91 #[ptr Bf] w3 fun r w' => (∃ v, r = .returned v) ∧ R w') := fun _ => hcl
  clear h hcl
  have hp : (ptr p) = .pointer (some ⟨p, 0, none⟩) := rfl
  rw [hp]
  go_enter Tryz.func78, Tryz.ntmps78
  go_wp2_with (first | (go_at_call 53; refine (begin_ok _ B p m x HH.out hon ho hlf).mono ?_; rintro e w3 ⟨rfl, h3⟩; rw [hst]; have H3 := (show Hid _ from h3); clear h3) | (go_at_call 91; refine (HC.out () _ H3.out).mono ?_; rintro e w4 ⟨⟨v, rfl⟩, h4⟩))
  go_ret
  exact ⟨rfl, h4⟩
theorem perf_sync_off (w : World) (B p m : Nat) (x : DK) (h : Dsk w B p m x) (hon : x.on = true) (ho : x.ops ≤ 4611686018427387904) (hlf : x.left ≤ 9223372036854775807) (Bf : Nat) (hst : (beg x).on = false) :
    Calls Tryz.prog 78 #[ptr p, .func (.func 91) #[] #[ptr Bf]] w fun r w' => r = .returned (.int .i64 18) ∧ Hdr w w' B p m { beg x with und := .func (.func 91) #[] #[ptr Bf] } := by
  have y := h.va.cell 2 (v := .bool x.on) rfl
  rw [hon] at y
  have HH := (show Hid _ from h)
  clear h
  have hp : (ptr p) = .pointer (some ⟨p, 0, none⟩) := rfl
  rw [hp]
  go_enter Tryz.func78, Tryz.ntmps78
  go_wp2_with (go_at_call 53; refine (begin_ok _ B p m x HH.out hon ho hlf).mono ?_; rintro e w3 ⟨rfl, h3⟩; rw [hst]; have H3 := (show Hid _ from h3); have y5 := h3.1.va.cell 5 (v := (beg x).und) rfl; have f5 := h3.1.va.free 5; have s5 := run_store Tryz.prog w3 ⟨p, 5, none⟩ (.func (.func 91) #[] #[ptr Bf]) .plain rfl; simp only [y5, f5, Bool.false_eq_true, if_false] at s5; clear h3 y5 f5)
  go_ret
  have h4 := hdr_of H3.out.1 (upd_set _ p 5 (.func (.func 91) #[] #[ptr Bf])) (beg x).ops (beg x).left (beg x).on (.func (.func 91) #[] #[ptr Bf]) (H3.out.1.va.set 5 _)
  exact ⟨rfl, h4.1, H3.out.2.1.trans h4.2.1, H3.out.2.2.trans h4.2.2⟩

theorem perf_trunc (w : World) (B p m : Nat) (x : DK) (h : Dsk w B p m x) (hon : x.on = true) (ho : x.ops ≤ 4611686018427387904) (hlf : x.left ≤ 9223372036854775807) (Bf Bn : Nat) (hst : (beg x).on = true) (R : World → Prop)
    (hcl : ∀ w3, Hdr w w3 B p m (beg x) → Calls Tryz.prog 113 #[ptr Bf, ptr Bn] w3 fun r w' => (∃ v, r = .returned v) ∧ R w') :
    Calls Tryz.prog 78 #[ptr p, .func (.func 113) #[] #[ptr Bf, ptr Bn]] w fun r w' => r = .returned (.int .i64 0) ∧ R w' := by
  have y := h.va.cell 2 (v := .bool x.on) rfl
  rw [hon] at y
  have HH := (show Hid _ from h)
  have HC : Hid (Unit → ∀ w3, Hdr w w3 B p m (beg x) → Calls Tryz.prog 113 #[ptr Bf, ptr Bn] w3 fun r w' => (∃ v, r = .returned v) ∧ R w') := fun _ => hcl
  clear h hcl
  have hp : (ptr p) = .pointer (some ⟨p, 0, none⟩) := rfl
  rw [hp]
  go_enter Tryz.func78, Tryz.ntmps78
  go_wp2_with (first | (go_at_call 53; refine (begin_ok _ B p m x HH.out hon ho hlf).mono ?_; rintro e w3 ⟨rfl, h3⟩; rw [hst]; have H3 := (show Hid _ from h3); clear h3) | (go_at_call 113; refine (HC.out () _ H3.out).mono ?_; rintro e w4 ⟨⟨v, rfl⟩, h4⟩))
  go_ret
  exact ⟨rfl, h4⟩
theorem perf_trunc_off (w : World) (B p m : Nat) (x : DK) (h : Dsk w B p m x) (hon : x.on = true) (ho : x.ops ≤ 4611686018427387904) (hlf : x.left ≤ 9223372036854775807) (Bf Bn : Nat) (hst : (beg x).on = false) :
    Calls Tryz.prog 78 #[ptr p, .func (.func 113) #[] #[ptr Bf, ptr Bn]] w fun r w' => r = .returned (.int .i64 18) ∧ Hdr w w' B p m { beg x with und := .func (.func 113) #[] #[ptr Bf, ptr Bn] } := by
  have y := h.va.cell 2 (v := .bool x.on) rfl
  rw [hon] at y
  have HH := (show Hid _ from h)
  clear h
  have hp : (ptr p) = .pointer (some ⟨p, 0, none⟩) := rfl
  rw [hp]
  go_enter Tryz.func78, Tryz.ntmps78
  go_wp2_with (go_at_call 53; refine (begin_ok _ B p m x HH.out hon ho hlf).mono ?_; rintro e w3 ⟨rfl, h3⟩; rw [hst]; have H3 := (show Hid _ from h3); have y5 := h3.1.va.cell 5 (v := (beg x).und) rfl; have f5 := h3.1.va.free 5; have s5 := run_store Tryz.prog w3 ⟨p, 5, none⟩ (.func (.func 113) #[] #[ptr Bf, ptr Bn]) .plain rfl; simp only [y5, f5, Bool.false_eq_true, if_false] at s5; clear h3 y5 f5)
  go_ret
  have h4 := hdr_of H3.out.1 (upd_set _ p 5 (.func (.func 113) #[] #[ptr Bf, ptr Bn])) (beg x).ops (beg x).left (beg x).on (.func (.func 113) #[] #[ptr Bf, ptr Bn]) (H3.out.1.va.set 5 _)
  exact ⟨rfl, h4.1, H3.out.2.1.trans h4.2.1, H3.out.2.2.trans h4.2.2⟩

theorem trunc1_ok (w : World) (B Bf Bn : Nat) (e : Ent) (h : Fil w B e) (hf : VA w Bf [ptr e.q] 110) (n : Nat) (hn2 : n ≤ 9223372036854775807) (hbn : VA w Bn [.int .i64 (n : Int)] 3) (hn : e.ss.length ≤ 65536) (hB : B ≤ w.heap.size) :
    Calls Tryz.prog 113 #[ptr Bf, ptr Bn] w fun r w' => (∃ v, r = .returned v) ∧ Chf w w' B e (e.ss.take n) (min n e.ss.length) := by
  have yb := hf.cell 0 (v := ptr e.q) rfl
  have yn := hbn.cell 0 (v := .int .i64 (n : Int)) rfl
  have HH := (show Hid _ from h)
  have hp : (ptr e.q) = .pointer (some ⟨e.q, 0, none⟩) := rfl
  have hp2 : (ptr Bf) = .pointer (some ⟨Bf, 0, none⟩) := rfl
  have hp3 : (ptr Bn) = .pointer (some ⟨Bn, 0, none⟩) := rfl
  rw [hp] at yb
  rw [hp2, hp3]
  clear h hf hbn
  go_enter Tryz.func113, Tryz.ntmps113
  go_wp2_with (go_at_call 114; refine (cutTo_ok _ B e HH.out hn hB n hn2).mono ?_; rintro r w1 ⟨⟨v, rfl⟩, h1⟩)
  go_end0
  exact ⟨⟨_, rfl⟩, h1⟩
theorem Chf.kee {w w' : World} {B : Nat} {e : Ent} {ss : List (List Nat)} {sy : Nat} (h : Chf w w' B e ss sy) (f : Fil w B e) : Kee w w' := by
  obtain ⟨v', _, hb, _⟩ := h
  refine kee_but hb (fun i hi cs T z hc => ?_)
  rcases hi with rfl | hi
  · rw [f.blk.blk] at hc; cases hc; exact .inr (.inl rfl)
  · obtain ⟨cs', hcs⟩ := row_blk f.row hi
    rw [hcs] at hc; cases hc; exact .inr (.inr rfl)
theorem Chf.bel {w w' : World} {B : Nat} {e : Ent} {ss : List (List Nat)} {sy : Nat} (h : Chf w w' B e ss sy) (f : Fil w B e) (hB : B ≤ w.heap.size) : Below B w w' := by
  obtain ⟨v', _, hb, _⟩ := h
  refine hb.below hB (fun i hi => ?_)
  rcases hi with rfl | hi
  · exact f.lo
  · exact f.row.block i hi
/-- the files with one changed -/
def upd1 (fs : List (List UInt8 × List (List Nat) × Nat)) (l : List UInt8) (ss : List (List Nat)) (sy : Nat) : List (List UInt8 × List (List Nat) × Nat) := fs.map fun t => if t.1 = l then (l, ss, sy) else t
theorem ab_upd {l1 l2 : List Ent} {e : Ent} (hp : (l1 ++ e :: l2).Pairwise Apart) (v : Value) (ss : List (List Nat)) (sy : Nat) : ab (l1 ++ { e with v := v, ss := ss, sy := sy } :: l2) = upd1 (ab (l1 ++ e :: l2)) e.nm ss sy := by
  obtain ⟨a1, a2, a3⟩ := List.pairwise_append.1 hp
  obtain ⟨a4, a5⟩ := List.pairwise_cons.1 a2
  have hsame : ∀ l : List Ent, (∀ a ∈ l, a.nm ≠ e.nm) → upd1 (ab l) e.nm ss sy = ab l := fun l hl => by
    unfold upd1 ab
    rw [List.map_map]
    refine List.map_congr_left (fun a ha => ?_)
    show (if a.nm = e.nm then _ else _) = _
    rw [if_neg (hl a ha)]
  have happ : ∀ a b, upd1 (a ++ b) e.nm ss sy = upd1 a e.nm ss sy ++ upd1 b e.nm ss sy := fun a b => by simp [upd1]
  rw [ab_app, ab_app, happ, hsame l1 (fun a ha => (a3 a ha e (List.mem_cons_self ..)).1)]
  congr 1
  show (e.nm, ss, sy) :: ab l2 = (if e.nm = e.nm then _ else _) :: upd1 (ab l2) e.nm ss sy
  rw [if_pos rfl, hsame l2 (fun a ha => (a4 a ha).1.symm)]
/-- a disk that is like y, but for its files, and what was left undone -/
def Lk (w' : World) (B p m : Nat) (y : DK) (fs : List (List UInt8 × List (List Nat) × Nat)) : Prop := ∃ u es', Dsk w' B p m { y with und := u, es := es' } ∧ ab es' = fs ∧ (y.on = true → u = y.und)
theorem Dsk.chf {w w' : World} {B p m : Nat} {x : DK} (h : Dsk w B p m x) {l1 l2 : List Ent} {e : Ent} (hx : x.es = l1 ++ e :: l2) {ss : List (List Nat)} {sy : Nat} (hc : Chf w w' B e ss sy) (hs : ss.length ≤ e.ss.length) : ∃ es', Dsk w' B p m { x with es := es' } ∧ ab es' = upd1 (ab x.es) e.nm ss sy := by
  obtain ⟨v', hf, hb, hv⟩ := hc
  have ht := h.fits.1
  rw [hx, tot_app] at ht
  simp only [tot] at ht
  refine ⟨_, h.put hx hb hf rfl rfl hv (by show tot l1 + ss.length + tot l2 ≤ _; omega), ?_⟩
  have ap := h.ap
  rw [hx] at ap
  rw [hx, ab_upd ap]
theorem Dsk.flen {w : World} {B p m : Nat} {x : DK} (h : Dsk w B p m x) {l1 l2 : List Ent} {e : Ent} (hx : x.es = l1 ++ e :: l2) : e.ss.length ≤ 65536 := by
  have h1 := h.fits
  rw [hx, tot_app] at h1
  simp only [tot] at h1
  omega
/-- what Sync leaves -/
def Opd (w w' : World) (B p m : Nat) (x : DK) (fs : List (List UInt8 × List (List Nat) × Nat)) : Prop := Lk w' B p m (beg x) (if (beg x).on then fs else ab x.es) ∧ Kee w w' ∧ Below B w w'
end Go.Proofs.YtkmdegmpffgplaaGreatDoor
/- disk XVI: the names, sorted. -/
namespace Go.Proofs.YtkmdegmpffgplaaGreatDoor
open Go.RowKit Go.Maps Go.Sort Go.Shelf pk
open Go.WideElems (Fit rd rg pl rd_key rd_val rg_of other_key)
set_option linter.unusedVariables false

shelf_lay_g SlLaysZ.n7 Ggz 7 at Tryz 101 as layKeys
shelf_lay_g SlLaysZ.n6 Ggz 6 at Tryz 100 as laySorted
shelf_lay_g SlLaysM.n6 Slgm 6 at Tryz 118 as laySort
theorem sortsIn (k : Nat) : AnyZ.SortsIn Tryz.prog laySorted_ren Fence.wide k :=
  ⟨fun blk off cap ss W hH hblk hsz => callsIn_wide.2 (AnyM.slices_Sort_string laySort blk off cap ss W hH hblk hsz), fun q cap W => callsIn_wide.2 (AnyM.slices_Sort_string_none laySort q cap W)⟩
theorem keys_in (mb : Option Nat) (W : World) : CallsIn Fence.wide 5 Tryz.prog 101 #[.map mb] W fun e w' => e = .returned (.func (.func 119) #[] #[.pointer (some ⟨W.heap.size, 0, none⟩)]) ∧ w' = W.alloc (.cells #[.map mb] 104) :=
  AnyZ.keys_in layKeys Fence.wide 5 trivial rfl mb W
set_option maxHeartbeats 1000000 in
theorem sorted_in (b nn : Nat) (D0 : DataW Value) (w : World) (hown : w.ownsMap Tryz.prog 9 heldR b nn D0) (hmax : Maps.size D0 ≤ 64) :
    CallsIn Fence.wide 5 Tryz.prog 100 #[.func (.func 119) #[] #[.pointer (some ⟨w.heap.size, 0, none⟩)]] (w.alloc (.cells #[.map (some b)] 104)) fun e w' =>
      ∃ (v : Value) (ss : List (List UInt8)), e = .returned v ∧ ss.Perm (strKeys D0) ∧ w'.ownsRow (w.alloc (.cells #[.map (some b)] 104)).heap.size 9 1 v ss.length ((ss.mergeSort (fun x y => decide (x ≤ y))).map encStr) ∧ (v = .slice none 0 0 ↔ ss = []) ∧ Below (w.alloc (.cells #[.map (some b)] 104)).heap.size (w.alloc (.cells #[.map (some b)] 104)) w' := by
  have hbl := hown.lt
  have hseq : SeqGives Fence.wide 2 Tryz.prog 119 #[.pointer (some ⟨w.heap.size, 0, none⟩)] encStr (fun ss => ss.Perm (strKeys D0)) (Maps.size D0) (w.alloc (.cells #[.map (some b)] 104)) :=
    AnyZ.keys_gives (ρ := layKeys_ren) { layKeys with } Fence.wide _ trivial rfl (by omega) w.heap.size b nn D0 _ (by simp) (by simp) (by
      obtain ⟨es, clock, hb, Ft, hs, hD⟩ := hown
      exact ⟨es, clock, (Below.heap_alloc _ _ b hbl).trans hb, Ft, hs, hD⟩)
  exact AnyZ.sorted_in laySorted Fence.wide 5 trivial trivial trivial trivial rfl (by omega) (sortsIn _) (enters_of Tryz.func118 (by kernel_rfl) rfl) 119 #[.pointer (some ⟨w.heap.size, 0, none⟩)] trivial (enters_of Tryz.func119 (by kernel_rfl) rfl) _ _ (by unfold maxLen; omega) (by omega) _ hseq
theorem names_perm {w : World} {b n : Nat} {es : List Ent} (h : MapF w 9 b n (mf es)) (hp : es.Pairwise Apart) (hn : ∀ e ∈ es, e.nm.length ≤ 16) : ∃ D : DataW Value, w.ownsMap Tryz.prog 9 heldR b n D ∧ Maps.size D = es.length ∧ (strKeys D).Perm (es.map (·.nm)) := by
  obtain ⟨D, ho, hf⟩ := h
  have hsz : Maps.size D = es.length := by
    obtain ⟨D', h1, h2⟩ := MapF.lenS ⟨D, ho, hf⟩ hp hn
    obtain ⟨ms, c, hb, _, _, rfl⟩ := ho
    obtain ⟨ms', c', hb', _, _, rfl⟩ := h1
    rw [hb] at hb'
    cases hb'
    exact h2
  refine ⟨D, ho, hsz, ?_⟩
  obtain ⟨ms, clock, hb, F, hs, rfl⟩ := ho
  have h1 := Maps.fit_apart keyedS F
  have hkey : ∀ q ∈ ms.toList.map (rg Tryz.prog 9 heldR), ∃ l : List UInt8, q.1 = .string l := fun q hq => by
    obtain ⟨e, he, rfl⟩ := List.mem_map.1 hq
    obtain ⟨y, hy⟩ := F.reads e he
    obtain ⟨s, _, h3, _⟩ := str_of (rd_key hy)
    rw [rg_of hy]
    exact ⟨_, h3⟩
  have hperm : ((ms.toList.map (rg Tryz.prog 9 heldR)).foldr DataW.insert []).Perm (ms.toList.map (rg Tryz.prog 9 heldR)) := Go.WideShapes.sorted_perm _
  show (((ms.toList.map (rg Tryz.prog 9 heldR)).foldr DataW.insert []).map fun q => strOf q.1).Perm _
  refine (hperm.map _).trans ?_
  have hnd : ((ms.toList.map (rg Tryz.prog 9 heldR)).map fun q => strOf q.1).Nodup := by
    refine List.pairwise_map.2 (List.Pairwise.imp_of_mem (fun {a b} ha hb' hab e => ?_) h1)
    obtain ⟨l, hl⟩ := hkey a ha
    obtain ⟨l', hl'⟩ := hkey b hb'
    rw [hl, hl'] at e hab
    exact hab (by congr 1)
  have hnd2 : (es.map (·.nm)).Nodup := List.pairwise_map.2 (hp.imp (fun h => h.1))
  have hin : ∀ kl, Maps.has (.map ((ms.toList.map (rg Tryz.prog 9 heldR)).foldr DataW.insert [])) kl = true ↔ kl ∈ (ms.toList.map (rg Tryz.prog 9 heldR)).map (·.1) := fun kl => by
    constructor
    · intro hh
      obtain ⟨q, hq, hk⟩ := List.any_eq_true.1 hh
      rw [← WideAt.sameKey_eq hk]
      exact List.mem_map.2 ⟨q, mem_sorted.1 hq, rfl⟩
    · intro hh
      obtain ⟨q, hq, rfl⟩ := List.mem_map.1 hh
      obtain ⟨e, he, rfl⟩ := List.mem_map.1 hq
      obtain ⟨y, hy⟩ := F.reads e he
      refine List.any_eq_true.2 ⟨rg Tryz.prog 9 heldR e, mem_sorted.2 (List.mem_map.2 ⟨e, he, rfl⟩), ?_⟩
      rw [rg_of hy]
      exact WideAt.sameKey_self (keyedS.key (rd_key hy))
  refine (List.perm_ext_iff_of_nodup hnd hnd2).2 (fun l => ⟨fun hl => ?_, fun hl => ?_⟩)
  · obtain ⟨q, hq, rfl⟩ := List.mem_map.1 hl
    obtain ⟨e, he, rfl⟩ := List.mem_map.1 hq
    obtain ⟨y, hy⟩ := F.reads e he
    have hh := (hin _).2 (List.mem_map.2 ⟨_, hq, rfl⟩)
    obtain ⟨s, _, h3, _⟩ := str_of (rd_key hy)
    rw [rg_of hy] at hh ⊢
    rw [(hf _ _ (rd_key hy)).1] at hh
    obtain ⟨c, hc⟩ := Option.isSome_iff_exists.1 hh
    obtain ⟨e', h4, h5, _⟩ := mf_some hc
    have h6 : y.1 = Lit.string e'.nm := h5
    show strOf y.1 ∈ _
    rw [h6]
    exact List.mem_map.2 ⟨e', h4, rfl⟩
  · obtain ⟨e, he, rfl⟩ := List.mem_map.1 hl
    have hh : Maps.has (.map ((ms.toList.map (rg Tryz.prog 9 heldR)).foldr DataW.insert [])) (.string e.nm) = true := by
      rw [(hf _ _ (nm_key (hn e he))).1]
      show ((fd es e.nm).map _).isSome = true
      rw [fd_of hp he]
      rfl
    obtain ⟨q, hq, hq2⟩ := List.mem_map.1 ((hin _).1 hh)
    exact List.mem_map.2 ⟨q, hq, by show strOf q.1 = e.nm; rw [hq2]; rfl⟩
/-- a new row of texts -/
def OwnN (w : World) (B : Nat) (v : Value) (ns : List (List UInt8)) : Prop := w.ownsRow B 9 1 v ns.length (ns.map encStr)
theorem sorted_ok (w : World) (B p m : Nat) (x : DK) (h : Dsk w B p m x) :
    Calls Tryz.prog 77 #[ptr p] w fun e w' => ∃ v ns, e = .returned v ∧ ns.Perm (x.es.map (·.nm)) ∧ ns.Pairwise (fun a b => a ≤ b) ∧ OwnN w' w.heap.size v ns ∧ (v = .slice none 0 0 ↔ ns = []) ∧ Below w.heap.size w w' := by
  obtain ⟨D, ho, hsz, hpm⟩ := names_perm h.mp h.ap (fun e he => (h.fil e he).nm)
  have y1 := h.va.cell 1 (v := .map (some m)) rfl
  have hmx : Maps.size D ≤ 64 := by rw [hsz]; exact h.fits.2.2
  have HPM := (show Hid _ from hpm)
  have HO : Hid (w.ownsMap Tryz.prog 9 heldR m x.es.length D) := ho
  clear h ho hsz hpm
  have hp : (ptr p) = .pointer (some ⟨p, 0, none⟩) := rfl
  rw [hp]
  refine (callsIn_wide (n := 6)).1 ?_
  have hfK : Fence.wide.fn 101 := trivial
  have hfS : Fence.wide.fn 100 := trivial
  refine callsIn_of_wp Tryz.func77 rfl trivial ?_ rfl
  simp only [Tryz.ntmps77, List.size_toArray, List.length_cons, List.length_nil, Nat.reduceAdd, Nat.reduceSub, Array.replicate_succ, Array.replicate_zero, List.push_toArray, List.append_toArray, List.nil_append, List.cons_append]
  gi_wp2_with (first | (gi_at_call 101; refine (keys_in _ _).mono ?_; rintro e w' ⟨rfl, rfl⟩) | (gi_at_call 100; refine (sorted_in m x.es.length D w HO.out hmx).mono ?_; rintro e w' ⟨v, ss, rfl, hS, hrow, hnil, hb⟩))
  go_ret
  have hms : (ss.mergeSort (fun x y => decide (x ≤ y))).Perm ss := List.mergeSort_perm _ _
  refine ⟨v, ss.mergeSort (fun x y => decide (x ≤ y)), rfl, (hms.trans hS).trans HPM.out, ?_, ?_, ?_, ((Below.refl _ w).alloc (Nat.le_refl _) _).trans (hb.mono (by simp))⟩
  · have := List.pairwise_mergeSort (le := fun x y : List UInt8 => decide (x ≤ y)) (fun a b c h1 h2 => by simp only [decide_eq_true_eq] at *; exact List.le_trans h1 h2) (fun a b => by simpa using List.le_total a b) ss
    exact this.imp (fun h => by simpa using h)
  · unfold OwnN
    rw [hms.length_eq]
    exact ownsRow_base_a hrow (by simp)
  · rw [hnil]
    exact ⟨fun e => by rw [e] at hms ⊢; exact hms.eq_nil, fun e => by rw [e] at hms; exact hms.symm.eq_nil⟩
end Go.Proofs.YtkmdegmpffgplaaGreatDoor
/- disk XVII: a sector of a row is stored; what Restart keeps. -/
namespace Go.Proofs.YtkmdegmpffgplaaGreatDoor
open Go.RowKit Go.Maps Go.Shelf pk
set_option linter.unusedVariables false

theorem cells_set (ss : List (List Nat)) (j : Nat) (d : List Nat) (hj : j < ss.length) : KS.cells (ss.set j d) = (KS.cells ss).take (j * 32) ++ sect d ++ (KS.cells ss).drop (j * 32 + 32) := by
  have e : ss = ss.take j ++ ss[j] :: ss.drop (j + 1) := by rw [List.getElem_cons_drop, List.take_append_drop]
  have h1 : (KS.cells (ss.take j)).length = j * 32 := by
    rw [KS.cells_len, List.length_take]
    show min j ss.length * 32 = j * 32
    congr 1
    omega
  have h2 : KS.cells ss = KS.cells (ss.take j) ++ (sect ss[j] ++ KS.cells (ss.drop (j + 1))) := by
    conv => lhs; rw [e]
    rw [KS.cells_app]
    rfl
  have h3 : ss.set j d = ss.take j ++ d :: ss.drop (j + 1) := by
    rw [List.set_eq_take_append_cons_drop, if_pos hj]
  have h4 : (sect ss[j]).length = 32 := sect_len _
  rw [h3, KS.cells_app]
  show KS.cells (ss.take j) ++ (sect d ++ KS.cells (ss.drop (j + 1))) = _
  have t1 : (KS.cells (ss.take j) ++ (sect ss[j] ++ KS.cells (ss.drop (j + 1)))).take (j * 32) = KS.cells (ss.take j) := List.take_left' h1
  have t2 : (KS.cells (ss.take j) ++ (sect ss[j] ++ KS.cells (ss.drop (j + 1)))).drop (j * 32 + 32) = KS.cells (ss.drop (j + 1)) := by
    rw [← List.append_assoc]
    exact List.drop_left' (by rw [List.length_append, h1, h4])
  rw [h2, t1, t2, List.append_assoc]
/-- f.sectors[j] = d -/
theorem stS {w : World} {B g n cap : Nat} {ss : List (List Nat)} (h : Own KS w B (.slice (some ⟨g, 0, none⟩) n cap) ss) (j : Nat) (hj : j < ss.length) (d : List Nat) :
    ∃ w', (storeCells ⟨g, j * 32, none⟩ (sect d)).run Tryz.prog w = .ok () w' ∧ Own KS w' B (.slice (some ⟨g, 0, none⟩) n cap) (ss.set j d) ∧ Upd g w w' := by
  rcases h.own.2 with ⟨e, _⟩ | ⟨g', cap', cur, e, hb, hg, hc1, hc2, hsz, htk⟩
  · cases e
  · cases e
    have hsz2 : cur.size = cap * 32 := hsz
    have htk2 : cur.toList.take (ss.length * 32) = KS.cells ss := htk
    have hle : j * 32 + 32 ≤ cur.size := by rw [hsz2]; omega
    have hr := run_storeCells_at (P := Tryz.prog) g (j * 32) 143 (sect d) 0 cur w hg (by rw [sect_len]; omega) (sect_one d)
    rw [sect_len, Nat.add_zero] at hr
    refine ⟨_, hr, ⟨?_, Or.inr ⟨g, cap, _, by rw [List.length_set], hb, setRow_heap w g _ _ _ _ hg, by rw [List.length_set]; exact hc1, hc2, ?_, ?_⟩⟩, upd_setRow w g _⟩
    · rw [KS.cells_len]
    · show (_ : List Value).toArray.size = cap * 32
      rw [List.size_toArray, List.length_append, List.length_append, List.length_take, List.length_drop, sect_len]
      have : cur.toList.length = cap * 32 := by rw [Array.length_toList, hsz2]
      omega
    · show ((_ : List Value).toArray.toList).take ((ss.set j d).length * 32) = KS.cells (ss.set j d)
      rw [cells_set ss j d hj, ← htk2, List.length_set]
      have hl : cur.toList.length = cap * 32 := by rw [Array.length_toList, hsz2]
      have hjs : j * 32 + 32 ≤ ss.length * 32 := by omega
      show (cur.toList.take (j * 32) ++ sect d ++ cur.toList.drop (j * 32 + 32)).take (ss.length * 32) = _
      rw [List.take_append, List.take_of_length_le (by rw [List.length_append, List.length_take, sect_len]; omega), List.length_append, List.length_take, sect_len, List.take_take, List.drop_take, show min (j * 32) (ss.length * 32) = j * 32 by omega, show ss.length * 32 - (min (j * 32) cur.toList.length + 32) = ss.length * 32 - (j * 32 + 32) by omega]
/-- the slice v holds the truth values ks -/
structure Bl (w : World) (v : Value) (ks : List Bool) : Prop where
  form : ∃ a c, v = .slice a ks.length c ∧ ks.length ≤ c ∧ c ≤ 9223372036854775807 ∧ (0 < ks.length → ∃ b off, a = some ⟨b, off, none⟩ ∧ ∀ i, i < ks.length → w.cell? ⟨b, off + i, none⟩ = some (.bool (ks.getD i false)))
theorem Bl.kee {w w' : World} {v : Value} {ks : List Bool} (h : Bl w v ks) (hs : Safe w v) (k : Kee w w') : Bl w' v ks := by
  obtain ⟨a, c, rfl, h1, h2, h3⟩ := h
  refine ⟨a, c, rfl, h1, h2, fun h0 => ?_⟩
  obtain ⟨b, off, rfl, hx⟩ := h3 h0
  obtain ⟨cs, T, z, hc, hT⟩ := hs b off _ _ rfl
  refine ⟨b, off, rfl, fun j hj => ?_⟩
  rw [← hx j hj]
  exact World.cell?_of_block ((k.blk _ _ _ _ hc hT).trans hc.symm)
/-- the sectors of a file, those from sy up to j made noughts that are not kept: the first one's flag is number i -/
def zf (ks : List Bool) (i sy j : Nat) (ss : List (List Nat)) : List (List Nat) := ss.mapIdx fun k s => if sy ≤ k ∧ k < j ∧ ks.getD (i + (k - sy)) false = false then [] else s
theorem zf_len (ks : List Bool) (i sy j : Nat) (ss : List (List Nat)) : (zf ks i sy j ss).length = ss.length := by simp [zf]
theorem zf_start (ks : List Bool) (i sy : Nat) (ss : List (List Nat)) : zf ks i sy sy ss = ss := by
  unfold zf
  refine List.ext_getElem? (fun k => ?_)
  rw [List.getElem?_mapIdx]
  cases ss[k]? with
  | none => rfl
  | some s => simp only [Option.map_some]; rw [if_neg (by omega)]
theorem zf_keep {ks : List Bool} {i sy j : Nat} {ss : List (List Nat)} (h : sy ≤ j) (hk : ks.getD (i + (j - sy)) false = true) : zf ks i sy (j + 1) ss = zf ks i sy j ss := by
  unfold zf
  refine List.ext_getElem? (fun k => ?_)
  rw [List.getElem?_mapIdx, List.getElem?_mapIdx]
  cases ss[k]? with
  | none => rfl
  | some s =>
    simp only [Option.map_some, Option.some.injEq]
    by_cases hkj : k = j
    · subst hkj
      rw [hk, if_neg (by simp), if_neg (by simp)]
    · have : (sy ≤ k ∧ k < j + 1 ∧ ks.getD (i + (k - sy)) false = false) ↔ (sy ≤ k ∧ k < j ∧ ks.getD (i + (k - sy)) false = false) := ⟨fun ⟨a, b, c⟩ => ⟨a, by omega, c⟩, fun ⟨a, b, c⟩ => ⟨a, by omega, c⟩⟩
      simp only [this]
theorem zf_zero {ks : List Bool} {i sy j : Nat} {ss : List (List Nat)} (h : sy ≤ j) (hk : ks.getD (i + (j - sy)) false = false) : zf ks i sy (j + 1) ss = (zf ks i sy j ss).set j [] := by
  unfold zf
  refine List.ext_getElem? (fun k => ?_)
  rw [List.getElem?_set, List.getElem?_mapIdx, List.getElem?_mapIdx, List.length_mapIdx]
  by_cases hkj : j = k
  · subst hkj
    rw [if_pos rfl]
    by_cases hl : j < ss.length
    · rw [if_pos hl, List.getElem?_eq_getElem hl]
      simp only [Option.map_some]
      rw [if_pos ⟨h, by omega, hk⟩]
    · rw [if_neg hl, List.getElem?_eq_none (by omega)]
      rfl
  · rw [if_neg hkj]
    cases ss[k]? with
    | none => rfl
    | some s =>
      simp only [Option.map_some, Option.some.injEq]
      have : (sy ≤ k ∧ k < j + 1 ∧ ks.getD (i + (k - sy)) false = false) ↔ (sy ≤ k ∧ k < j ∧ ks.getD (i + (k - sy)) false = false) := ⟨fun ⟨a, b, c⟩ => ⟨a, by omega, c⟩, fun ⟨a, b, c⟩ => ⟨a, by omega, c⟩⟩
      simp only [this]
end Go.Proofs.YtkmdegmpffgplaaGreatDoor
