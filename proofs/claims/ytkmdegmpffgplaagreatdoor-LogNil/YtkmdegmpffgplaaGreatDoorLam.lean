/- parts II: bodies as sectors, and back, in plain numbers. -/
import Derived.Test.YtkmdegmpffgplaaGreatDoorLag
import Derived.Test.YtkmdegmpffgplaaGreatDoorLal
namespace Go.Proofs.YtkmdegmpffgplaaGreatDoor
open Go.RowKit Go.Shelf pk
set_option linter.unusedVariables false

/-- a sector of a part -/
def secB (mk : Nat) (hd s : List Nat) : List Nat := pad32 ([mk, s.length] ++ hd ++ s)
/-- a body as sectors, the first k of them -/
def cutK (mk : Nat) (hd : Nat → List Nat) (bs : List Nat) (k : Nat) : List Nat := (List.range k).flatMap fun i => secB mk (hd i) (prt4 bs i)
/-- .. all of them -/
def cutB (mk : Nat) (hd : Nat → Nat → List Nat) (bs : List Nat) : List Nat := cutK mk (fun i => hd i (cn4 bs.length)) bs (cn4 bs.length)
/-- the parts of the first k sectors -/
def joinK (ss : List Nat) (k : Nat) : List Nat := (List.range k).flatMap fun i => ((ss.drop (32 * i + 8)).take (min (ss.getD (32 * i + 1) 0) 24))
theorem secB_len (mk : Nat) (hd s : List Nat) : (secB mk hd s).length = 32 := pad32_len _
theorem cutK_succ (mk : Nat) (hd : Nat → List Nat) (bs : List Nat) (k : Nat) : cutK mk hd bs (k + 1) = cutK mk hd bs k ++ secB mk (hd k) (prt4 bs k) := by
  unfold cutK
  rw [List.range_succ, List.flatMap_append]
  simp
theorem cutK_len (mk : Nat) (hd : Nat → List Nat) (bs : List Nat) : ∀ k, (cutK mk hd bs k).length = 32 * k
  | 0 => rfl
  | k + 1 => by rw [cutK_succ, List.length_append, cutK_len mk hd bs k, secB_len]; omega
theorem joinK_succ (ss : List Nat) (k : Nat) : joinK ss (k + 1) = joinK ss k ++ ((ss.drop (32 * k + 8)).take (min (ss.getD (32 * k + 1) 0) 24)) := by
  unfold joinK
  rw [List.range_succ, List.flatMap_append]
  simp
theorem pad32_get (s : List Nat) (i : Nat) (hi : i < 32) : (pad32 s)[i]? = some (s.getD i 0) := by
  unfold pad32
  rw [List.getElem?_map, List.getElem?_range hi]
  rfl
/-- a byte of the k-th sector -/
theorem cutK_get (mk : Nat) (hd : Nat → List Nat) (bs : List Nat) (j : Nat) (hj : j < 32) : ∀ n k, k < n → (cutK mk hd bs n)[32 * k + j]? = some (([mk, (prt4 bs k).length] ++ hd k ++ prt4 bs k).getD j 0)
  | n + 1, k, hk => by
    rw [cutK_succ]
    by_cases h : k < n
    · rw [List.getElem?_append_left (by rw [cutK_len]; omega)]
      exact cutK_get mk hd bs j hj n k h
    · obtain rfl : k = n := by omega
      rw [List.getElem?_append_right (by rw [cutK_len]; omega), cutK_len, show 32 * k + j - 32 * k = j by omega]
      exact pad32_get _ j hj
theorem prt4_len (bs : List Nat) (k : Nat) : (prt4 bs k).length = min 24 (bs.length - 24 * k) := by unfold prt4; simp
theorem join_cut (mk : Nat) (hd : Nat → List Nat) (hh : ∀ i, (hd i).length = 6) (bs : List Nat) : ∀ k, k ≤ cn4 bs.length → joinK (cutK mk hd bs (cn4 bs.length)) k = bs.take (24 * k)
  | 0, _ => by simp [joinK]
  | k + 1, h => by
    have ih := join_cut mk hd hh bs k (by omega)
    have hl := prt4_len bs k
    have hk : 24 * k < bs.length := by unfold cn4 at h; omega
    have h1 : (cutK mk hd bs (cn4 bs.length)).getD (32 * k + 1) 0 = (prt4 bs k).length := by
      rw [List.getD_eq_getElem?_getD, cutK_get mk hd bs 1 (by omega) _ k (by omega)]
      rfl
    rw [joinK_succ, ih, h1]
    have e : ((cutK mk hd bs (cn4 bs.length)).drop (32 * k + 8)).take (min (prt4 bs k).length 24) = prt4 bs k := by
      refine List.ext_getElem? (fun i => ?_)
      by_cases hi : i < (prt4 bs k).length
      · rw [List.getElem?_take_of_lt (by omega), List.getElem?_drop, show 32 * k + 8 + i = 32 * k + (8 + i) by omega, cutK_get mk hd bs (8 + i) (by omega) _ k (by omega), List.getD_eq_getElem?_getD, List.getElem?_append_right (by simp [hh]), show (([mk, (prt4 bs k).length] ++ hd k).length) = 8 by simp [hh], show 8 + i - 8 = i by omega, List.getElem?_eq_getElem hi]
        rfl
      · rw [List.getElem?_eq_none (by rw [List.length_take]; omega), List.getElem?_eq_none (by omega)]
    rw [e]
    unfold prt4
    rw [show 24 * (k + 1) = 24 * k + 24 by omega, List.take_add]
theorem join_cutB (mk : Nat) (hd : Nat → Nat → List Nat) (hh : ∀ i c, (hd i c).length = 6) (bs : List Nat) : joinK (cutB mk hd bs) (cn4 bs.length) = bs := by
  unfold cutB
  rw [join_cut mk _ (fun i => hh i _) bs _ (Nat.le_refl _), List.take_of_length_le (by unfold cn4; omega)]
end Go.Proofs.YtkmdegmpffgplaaGreatDoor
/- disk XV: files that are cut and synced; perform; Sync, Truncate. -/
namespace Go.Proofs.YtkmdegmpffgplaaGreatDoor
open Go.RowKit Go.Shelf Go.Maps pk
set_option linter.unusedVariables false

theorem appSS {w : World} {ops : Array Oper} {rest : List Oper} {o : Oper} {a : Act} {Q : Exit → Act → World → Prop} (hgd : o.guard = none) (s x : Operand)
    (ho : o.op = .call { callee := .builtin .append, args := #[s, x], argTypes := #[114, 114] })
    (B : Nat) (ys : List (List Nat)) (v : Value) (ad : Addr) (n c : Nat) (hs : a.eval s = v) (hx : a.eval x = .slice (some ad) n c)
    (hown : Own KS w B v []) (hu : Sl KS w (.slice (some ad) n c) ys) (hB : B ≤ w.heap.size) (hl : ys.length ≤ 65536)
    (h : ∀ v' w', Own KS w' B v' ys → Below B w w' → wpList Tryz.prog ops Q rest (a.put o.dst v') w') : wpList Tryz.prog ops Q (o :: rest) a w := by
  have e2 : KS.bt = 32 := rfl
  refine appS (K := KS) hgd s x ho B [] ys v _ hs hx hown hu (fun n c e => by cases e) hB (by rw [e2]; simp; omega) (by simp; omega) (fun v' w' p q r => h v' w' (by simpa using p) q)
set_option maxRecDepth 100000 in
theorem clones_ok (w : World) (g off n cap : Nat) (ss : List (List Nat)) (hs : Sl KS w (.slice (some ⟨g, off, none⟩) n cap) ss) (hn : ss.length ≤ 65536) :
    Calls Tryz.prog 131 #[.slice (some ⟨g, off, none⟩) n cap] w fun r w' => (∃ u, r = .returned u ∧ Own KS w' w.heap.size u ss) ∧ Below w.heap.size w w' := by
  have hb := (Below.refl w.heap.size w).alloc (Nat.le_refl _) (.cells #[] 143)
  have H := (show Hid _ from hs.step hb)
  have HO : Hid (Own KS (w.alloc (.cells #[] 143)) w.heap.size (.slice (some ⟨w.heap.size, 0, none⟩) 0 0) []) := own_made KS w
  have HB := (show Hid _ from hb)
  clear hs hb
  have he : ∀ (w : World) (n : Nat), (binOp .eql 114 (.slice (some ⟨g, off, none⟩) n cap) (.slice none 0 0)).run Tryz.prog w = .ok (.bool false) w := fun _ _ => rfl
  go_enter Tryz.func131, Tryz.ntmps131
  go_wp2_with (at_builtin; refine appSS rfl _ _ rfl w.heap.size ss _ _ _ _ (by rfl) (by rfl) HO.out H.out (by simp) hn ?_; intro v' w1 ho hb1)
  have HO1 : Hid (Own KS w1 w.heap.size v' ss) := ho
  have HB1 := (show Hid _ from hb1)
  clear ho hb1
  go_wp2_with fail
  go_ret
  exact ⟨⟨_, rfl, HO1.out⟩, HB.out.trans HB1.out⟩
/-- what a change of one file leaves -/
def Chf (w w' : World) (B : Nat) (e : Ent) (ss : List (List Nat)) (sy : Nat) : Prop := ∃ v', Fil w' B { e with v := v', ss := ss, sy := sy } ∧ But (XF e) w w' ∧ ∀ g, v'.ownBlock = some g → e.v.ownBlock = some g ∨ w.heap.size ≤ g
theorem cutTo_ok (w : World) (B : Nat) (e : Ent) (h : Fil w B e) (hn : e.ss.length ≤ 65536) (hB : B ≤ w.heap.size) (n : Nat) (hn2 : n ≤ 9223372036854775807) :
    Calls Tryz.prog 114 #[ptr e.q, .int .i64 (n : Int)] w fun r w' => (∃ v, r = .returned v) ∧ Chf w w' B e (e.ss.take n) (min n e.ss.length) := by
  obtain ⟨a, cap, hv, hc, hc2⟩ := h.row.form
  have y0 := h.blk.cell 0 (v := e.v) rfl
  have y1 := h.blk.cell 1 (v := .int .i64 e.sy) rfl
  have f0 := h.blk.free 0
  have f1 := h.blk.free 1
  rw [hv] at y0
  have HH := (show Hid _ from h)
  have HV := (show Hid _ from hv)
  generalize hnl : e.ss.length = k at *
  have HK := (show Hid _ from hnl)
  have hp : (ptr e.q) = .pointer (some ⟨e.q, 0, none⟩) := rfl
  rw [hp]
  have hlq := h.blk.lt
  clear hv hnl
  by_cases hlt : n < k
  · have d1 : (n : Int) < (k : Int) := by omega
    have d2 : (n : Int) ≤ (cap : Int) := by omega
    have hsl := h.row.sl
    rw [HV.out] at hsl
    obtain ⟨s0, hs0⟩ : ∃ s0, e.ss[0]? = some s0 := ⟨_, List.getElem?_eq_getElem (by rw [HK.out]; omega)⟩
    obtain ⟨g, off, rfl, hg, _⟩ := hsl.at 0 s0 hs0
    have hfr : Sl KS w (.slice (some ⟨g, off, none⟩) n cap) (e.ss.take n) := by
      have h2 : e.ss = e.ss.take n ++ e.ss.drop n := (List.take_append_drop _ _).symm
      rw [h2] at hsl
      have h3 := hsl.front
      have h4 : (e.ss.take n).length = n := by rw [List.length_take, HK.out]; omega
      rw [h4] at h3
      exact h3
    have HFR := (show Hid _ from hfr)
    have HL1 : Hid ((e.ss.take n).length = n) := (show (e.ss.take n).length = n by rw [List.length_take, HK.out]; omega)
    clear hsl hfr h hs0
    go_enter Tryz.func114, Tryz.ntmps114
    go_wp2_with (go_at_call 131; refine (clones_ok _ _ _ _ _ (e.ss.take n) HFR.out (by rw [HL1.out]; omega)).mono ?_; rintro r w1 ⟨⟨u, rfl, ho⟩, b1⟩; obtain ⟨a1, c1, hu, hc1, _⟩ := ho.form; have hl1 := HL1.out; rw [hl1] at hu hc1; subst hu; have q1 := HH.out.blk.step b1; have z0 := q1.cell 0 (v := e.v) rfl; have z1 := q1.cell 1 (v := .int .i64 e.sy) rfl; have g0 := q1.free 0; have g1 := q1.free 1; rw [HV.out] at z0; have HO1 : Hid (Own KS w1 w.heap.size (.slice a1 n c1) (e.ss.take n)) := ho; have HB1 := (show Hid _ from b1); have HQ1 := (show Hid _ from q1); clear ho b1 q1)
    go_end0
    have U1 := upd_set w1 e.q 0 (.slice a1 n c1)
    have U2 := upd_set (w1.setCell ⟨e.q, 0, none⟩ (.slice a1 n c1)) e.q 1 (.int .i64 (n : Int))
    have hl1 : (e.ss.take n).length = n := by rw [List.length_take, HK.out]; omega
    refine ⟨⟨_, rfl⟩, .slice a1 n c1, ⟨?_, ?_, HH.out.lo, (by show min n k ≤ (e.ss.take n).length; rw [List.length_take, HK.out]; exact Nat.le_refl _), fun s hs => HH.out.byte s (List.mem_of_mem_take hs), HH.out.nm⟩, ?_, fun g hg => .inr (HO1.out.block g hg)⟩
    · have := (HQ1.out.set 0 (.slice a1 n c1)).set 1 (.int .i64 (n : Int))
      show VA _ e.q [_, .int .i64 ((min n k : Nat) : Int)] _
      rw [show min n k = n by omega]
      exact this
    · refine (HO1.out.lower hB).blk (fun g hg => ((U1.trans U2).block g (fun e2 => ?_)))
      have := HO1.out.block g hg
      omega
    · exact (below_but HB1.out _).trans ((U1.trans U2).but.mono (fun i h => .inl h)) (fun _ _ h => h)
  · have d1 : ¬ (n : Int) < (k : Int) := by omega
    clear h
    go_enter Tryz.func114, Tryz.ntmps114
    go_wp2_with fail
    go_end0
    have e1 : e.ss.take n = e.ss := List.take_of_length_le (by rw [HK.out]; omega)
    have U2 := upd_set w e.q 1 (.int .i64 (k : Int))
    refine ⟨⟨_, rfl⟩, e.v, ⟨?_, ?_, HH.out.lo, (by show min n k ≤ (e.ss.take n).length; rw [List.length_take, HK.out]; exact Nat.le_refl _), fun s hs => HH.out.byte s (List.mem_of_mem_take hs), HH.out.nm⟩, U2.but.mono (fun i h => .inl h), fun g hg => .inl hg⟩
    · have := HH.out.blk.set 1 (.int .i64 (k : Int))
      show VA _ e.q [_, .int .i64 ((min n k : Nat) : Int)] _
      rw [show min n k = k by omega]
      exact this
    · show Own KS _ B e.v (e.ss.take n)
      rw [e1]
      refine HH.out.row.blk (fun g hg => U2.block g (fun e2 => ?_))
      obtain ⟨cs, hcs⟩ := row_blk HH.out.row hg
      rw [e2, HH.out.blk.blk] at hcs
      injection hcs with hcs
      injection hcs with _ hT _
      cases hT
theorem sync1_ok (w : World) (B Bf : Nat) (e : Ent) (h : Fil w B e) (hf : VA w Bf [ptr e.q] 110) (hn : e.ss.length ≤ 65536) :
    Calls Tryz.prog 91 #[ptr Bf] w fun r w' => (∃ v, r = .returned v) ∧ Chf w w' B e e.ss e.ss.length := by
  obtain ⟨a, cap, hv, hc, hc2⟩ := h.row.form
  have y0 := h.blk.cell 0 (v := e.v) rfl
  have y1 := h.blk.cell 1 (v := .int .i64 e.sy) rfl
  have f1 := h.blk.free 1
  rw [hv] at y0
  have yb := hf.cell 0 (v := ptr e.q) rfl
  have HH := (show Hid _ from h)
  have hp : (ptr e.q) = .pointer (some ⟨e.q, 0, none⟩) := rfl
  have hp2 : (ptr Bf) = .pointer (some ⟨Bf, 0, none⟩) := rfl
  rw [hp] at yb
  rw [hp2]
  have hlq := h.blk.lt
  have hlb := hf.lt
  clear h hf hv
  go_enter Tryz.func91, Tryz.ntmps91
  go_region
  all_goals go_wp2_with fail
  all_goals go_end0
  all_goals
    refine ⟨⟨_, rfl⟩, e.v, ⟨?_, ?_, HH.out.lo, Nat.le_refl _, HH.out.byte, HH.out.nm⟩, ?_, fun g hg => .inl hg⟩
    · exact (HH.out.blk.set 1 (.int .i64 (e.ss.length : Int))).drew
    · refine HH.out.row.blk (fun g hg => (upd_set w e.q 1 (.int .i64 (e.ss.length : Int))).block g (fun e2 => ?_))
      obtain ⟨cs, hcs⟩ := row_blk HH.out.row hg
      rw [e2, HH.out.blk.blk] at hcs
      injection hcs with hcs
      injection hcs with _ hT _
      cases hT
    · have hb : But (XF e) w (w.setCell ⟨e.q, 1, none⟩ (.int .i64 (e.ss.length : Int))) := (upd_set w e.q 1 (.int .i64 (e.ss.length : Int))).but.mono (fun i h => Or.inl h)
      exact ⟨hb.os, hb.tape, hb.output, hb.size, hb.block⟩

theorem perf_sync (w : World) (B p m : Nat) (x : DK) (h : Dsk w B p m x) (hon : x.on = true) (ho : x.ops ≤ 4611686018427387904) (hlf : x.left ≤ 9223372036854775807) (Bf : Nat) (hst : (beg x).on = true) (R : World → Prop)
    (hcl : ∀ w3, Hdr w w3 B p m (beg x) → Calls Tryz.prog 91 #[ptr Bf] w3 fun r w' => (∃ v, r = .returned v) ∧ R w') :
    Calls Tryz.prog 78 #[ptr p, .func (.func 91) #[] #[ptr Bf]] w fun r w' => r = .returned (.int .i64 0) ∧ R w' := by
  have y := h.va.cell 2 (v := .bool x.on) rfl
  rw [hon] at y
  have HH := (show Hid _ from h)
  have HC : Hid (Unit → ∀ w3, Hdr w w3 B p m (beg x) → Calls Tryz.prog 91 #[ptr Bf] w3 fun r w' => (∃ v, r = .returned v) ∧ R w') := fun _ => hcl
  clear h hcl
  have hp : (ptr p) = .pointer (some ⟨p, 0, none⟩) := rfl
  rw [hp]
  go_enter Tryz.func78, Tryz.ntmps78
  go_wp2_with (first | (go_at_call 53; refine (begin_ok _ B p m x HH.out hon ho hlf).mono ?_; rintro e w3 ⟨rfl, h3⟩; rw [hst]; have H3 := (show Hid _ from h3); clear h3) | (go_at_call 91; refine (HC.out () _ H3.out).mono ?_; rintro e w4 ⟨⟨v, rfl⟩, h4⟩))
  go_ret
  exact ⟨rfl, h4⟩
theorem perf_sync_off (w : World) (B p m : Nat) (x : DK) (h : Dsk w B p m x) (hon : x.on = true) (ho : x.ops ≤ 4611686018427387904) (hlf : x.left ≤ 9223372036854775807) (Bf : Nat) (hst : (beg x).on = false) :
    Calls Tryz.prog 78 #[ptr p, .func (.func 91) #[] #[ptr Bf]] w fun r w' => r = .returned (.int .i64 18) ∧ Hdr w w' B p m { beg x with und := .func (.func 91) #[] #[ptr Bf] } := by
  have y := h.va.cell 2 (v := .bool x.on) rfl
  rw [hon] at y
  have HH := (show Hid _ from h)
  clear h
  have hp : (ptr p) = .pointer (some ⟨p, 0, none⟩) := rfl
  rw [hp]
  go_enter Tryz.func78, Tryz.ntmps78
  go_wp2_with (go_at_call 53; refine (begin_ok _ B p m x HH.out hon ho hlf).mono ?_; rintro e w3 ⟨rfl, h3⟩; rw [hst]; have H3 := (show Hid _ from h3); have y5 := h3.1.va.cell 5 (v := (beg x).und) rfl; have f5 := h3.1.va.free 5; have s5 := run_store Tryz.prog w3 ⟨p, 5, none⟩ (.func (.func 91) #[] #[ptr Bf]) .plain rfl; simp only [y5, f5, Bool.false_eq_true, if_false] at s5; clear h3 y5 f5)
  go_ret
  have h4 := hdr_of H3.out.1 (upd_set _ p 5 (.func (.func 91) #[] #[ptr Bf])) (beg x).ops (beg x).left (beg x).on (.func (.func 91) #[] #[ptr Bf]) (H3.out.1.va.set 5 _)
  exact ⟨rfl, h4.1, H3.out.2.1.trans h4.2.1, H3.out.2.2.trans h4.2.2⟩

theorem perf_trunc (w : World) (B p m : Nat) (x : DK) (h : Dsk w B p m x) (hon : x.on = true) (ho : x.ops ≤ 4611686018427387904) (hlf : x.left ≤ 9223372036854775807) (Bf Bn : Nat) (hst : (beg x).on = true) (R : World → Prop)
    (hcl : ∀ w3, Hdr w w3 B p m (beg x) → Calls Tryz.prog 113 #[ptr Bf, ptr Bn] w3 fun r w' => (∃ v, r = .returned v) ∧ R w') :
    Calls Tryz.prog 78 #[ptr p, .func (.func 113) #[] #[ptr Bf, ptr Bn]] w fun r w' => r = .returned (.int .i64 0) ∧ R w' := by
  have y := h.va.cell 2 (v := .bool x.on) rfl
  rw [hon] at y
  have HH := (show Hid _ from h)
  have HC : Hid (Unit → ∀ w3, Hdr w w3 B p m (beg x) → Calls Tryz.prog 113 #[ptr Bf, ptr Bn] w3 fun r w' => (∃ v, r = .returned v) ∧ R w') := fun _ => hcl
  clear h hcl
  have hp : (ptr p) = .pointer (some ⟨p, 0, none⟩) := rfl
  rw [hp]
  go_enter Tryz.func78, Tryz.ntmps78
  go_wp2_with (first | (go_at_call 53; refine (begin_ok _ B p m x HH.out hon ho hlf).mono ?_; rintro e w3 ⟨rfl, h3⟩; rw [hst]; have H3 := (show Hid _ from h3); clear h3) | (go_at_call 113; refine (HC.out () _ H3.out).mono ?_; rintro e w4 ⟨⟨v, rfl⟩, h4⟩))
  go_ret
  exact ⟨rfl, h4⟩
theorem perf_trunc_off (w : World) (B p m : Nat) (x : DK) (h : Dsk w B p m x) (hon : x.on = true) (ho : x.ops ≤ 4611686018427387904) (hlf : x.left ≤ 9223372036854775807) (Bf Bn : Nat) (hst : (beg x).on = false) :
    Calls Tryz.prog 78 #[ptr p, .func (.func 113) #[] #[ptr Bf, ptr Bn]] w fun r w' => r = .returned (.int .i64 18) ∧ Hdr w w' B p m { beg x with und := .func (.func 113) #[] #[ptr Bf, ptr Bn] } := by
  have y := h.va.cell 2 (v := .bool x.on) rfl
  rw [hon] at y
  have HH := (show Hid _ from h)
  clear h
  have hp : (ptr p) = .pointer (some ⟨p, 0, none⟩) := rfl
  rw [hp]
  go_enter Tryz.func78, Tryz.ntmps78
  go_wp2_with (go_at_call 53; refine (begin_ok _ B p m x HH.out hon ho hlf).mono ?_; rintro e w3 ⟨rfl, h3⟩; rw [hst]; have H3 := (show Hid _ from h3); have y5 := h3.1.va.cell 5 (v := (beg x).und) rfl; have f5 := h3.1.va.free 5; have s5 := run_store Tryz.prog w3 ⟨p, 5, none⟩ (.func (.func 113) #[] #[ptr Bf, ptr Bn]) .plain rfl; simp only [y5, f5, Bool.false_eq_true, if_false] at s5; clear h3 y5 f5)
  go_ret
  have h4 := hdr_of H3.out.1 (upd_set _ p 5 (.func (.func 113) #[] #[ptr Bf, ptr Bn])) (beg x).ops (beg x).left (beg x).on (.func (.func 113) #[] #[ptr Bf, ptr Bn]) (H3.out.1.va.set 5 _)
  exact ⟨rfl, h4.1, H3.out.2.1.trans h4.2.1, H3.out.2.2.trans h4.2.2⟩

theorem trunc1_ok (w : World) (B Bf Bn : Nat) (e : Ent) (h : Fil w B e) (hf : VA w Bf [ptr e.q] 110) (n : Nat) (hn2 : n ≤ 9223372036854775807) (hbn : VA w Bn [.int .i64 (n : Int)] 3) (hn : e.ss.length ≤ 65536) (hB : B ≤ w.heap.size) :
    Calls Tryz.prog 113 #[ptr Bf, ptr Bn] w fun r w' => (∃ v, r = .returned v) ∧ Chf w w' B e (e.ss.take n) (min n e.ss.length) := by
  have yb := hf.cell 0 (v := ptr e.q) rfl
  have yn := hbn.cell 0 (v := .int .i64 (n : Int)) rfl
  have HH := (show Hid _ from h)
  have hp : (ptr e.q) = .pointer (some ⟨e.q, 0, none⟩) := rfl
  have hp2 : (ptr Bf) = .pointer (some ⟨Bf, 0, none⟩) := rfl
  have hp3 : (ptr Bn) = .pointer (some ⟨Bn, 0, none⟩) := rfl
  rw [hp] at yb
  rw [hp2, hp3]
  clear h hf hbn
  go_enter Tryz.func113, Tryz.ntmps113
  go_wp2_with (go_at_call 114; refine (cutTo_ok _ B e HH.out hn hB n hn2).mono ?_; rintro r w1 ⟨⟨v, rfl⟩, h1⟩)
  go_end0
  exact ⟨⟨_, rfl⟩, h1⟩
theorem Chf.kee {w w' : World} {B : Nat} {e : Ent} {ss : List (List Nat)} {sy : Nat} (h : Chf w w' B e ss sy) (f : Fil w B e) : Kee w w' := by
  obtain ⟨v', _, hb, _⟩ := h
  refine kee_but hb (fun i hi cs T z hc => ?_)
  rcases hi with rfl | hi
  · rw [f.blk.blk] at hc; cases hc; exact .inr (.inl rfl)
  · obtain ⟨cs', hcs⟩ := row_blk f.row hi
    rw [hcs] at hc; cases hc; exact .inr (.inr rfl)
theorem Chf.bel {w w' : World} {B : Nat} {e : Ent} {ss : List (List Nat)} {sy : Nat} (h : Chf w w' B e ss sy) (f : Fil w B e) (hB : B ≤ w.heap.size) : Below B w w' := by
  obtain ⟨v', _, hb, _⟩ := h
  refine hb.below hB (fun i hi => ?_)
  rcases hi with rfl | hi
  · exact f.lo
  · exact f.row.block i hi
/-- the files with one changed -/
def upd1 (fs : List (List UInt8 × List (List Nat) × Nat)) (l : List UInt8) (ss : List (List Nat)) (sy : Nat) : List (List UInt8 × List (List Nat) × Nat) := fs.map fun t => if t.1 = l then (l, ss, sy) else t
theorem ab_upd {l1 l2 : List Ent} {e : Ent} (hp : (l1 ++ e :: l2).Pairwise Apart) (v : Value) (ss : List (List Nat)) (sy : Nat) : ab (l1 ++ { e with v := v, ss := ss, sy := sy } :: l2) = upd1 (ab (l1 ++ e :: l2)) e.nm ss sy := by
  obtain ⟨a1, a2, a3⟩ := List.pairwise_append.1 hp
  obtain ⟨a4, a5⟩ := List.pairwise_cons.1 a2
  have hsame : ∀ l : List Ent, (∀ a ∈ l, a.nm ≠ e.nm) → upd1 (ab l) e.nm ss sy = ab l := fun l hl => by
    unfold upd1 ab
    rw [List.map_map]
    refine List.map_congr_left (fun a ha => ?_)
    show (if a.nm = e.nm then _ else _) = _
    rw [if_neg (hl a ha)]
  have happ : ∀ a b, upd1 (a ++ b) e.nm ss sy = upd1 a e.nm ss sy ++ upd1 b e.nm ss sy := fun a b => by simp [upd1]
  rw [ab_app, ab_app, happ, hsame l1 (fun a ha => (a3 a ha e (List.mem_cons_self ..)).1)]
  congr 1
  show (e.nm, ss, sy) :: ab l2 = (if e.nm = e.nm then _ else _) :: upd1 (ab l2) e.nm ss sy
  rw [if_pos rfl, hsame l2 (fun a ha => (a4 a ha).1.symm)]
/-- a disk that is like y, but for its files, and what was left undone -/
def Lk (w' : World) (B p m : Nat) (y : DK) (fs : List (List UInt8 × List (List Nat) × Nat)) : Prop := ∃ u es', Dsk w' B p m { y with und := u, es := es' } ∧ ab es' = fs ∧ (y.on = true → u = y.und)
theorem Dsk.chf {w w' : World} {B p m : Nat} {x : DK} (h : Dsk w B p m x) {l1 l2 : List Ent} {e : Ent} (hx : x.es = l1 ++ e :: l2) {ss : List (List Nat)} {sy : Nat} (hc : Chf w w' B e ss sy) (hs : ss.length ≤ e.ss.length) : ∃ es', Dsk w' B p m { x with es := es' } ∧ ab es' = upd1 (ab x.es) e.nm ss sy := by
  obtain ⟨v', hf, hb, hv⟩ := hc
  have ht := h.fits.1
  rw [hx, tot_app] at ht
  simp only [tot] at ht
  refine ⟨_, h.put hx hb hf rfl rfl hv (by show tot l1 + ss.length + tot l2 ≤ _; omega), ?_⟩
  have ap := h.ap
  rw [hx] at ap
  rw [hx, ab_upd ap]
theorem Dsk.flen {w : World} {B p m : Nat} {x : DK} (h : Dsk w B p m x) {l1 l2 : List Ent} {e : Ent} (hx : x.es = l1 ++ e :: l2) : e.ss.length ≤ 65536 := by
  have h1 := h.fits
  rw [hx, tot_app] at h1
  simp only [tot] at h1
  omega
/-- what Sync leaves -/
def Opd (w w' : World) (B p m : Nat) (x : DK) (fs : List (List UInt8 × List (List Nat) × Nat)) : Prop := Lk w' B p m (beg x) (if (beg x).on then fs else ab x.es) ∧ Kee w w' ∧ Below B w w'
end Go.Proofs.YtkmdegmpffgplaaGreatDoor
